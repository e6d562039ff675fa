"""Alike scripts: told by their ends and quotients, without walking."""

from stilewalks.errors import BadHall
from stilewalks.groups import add_groups, common_moves, show_groups, side_of, top_over
from stilewalks.rolled import are_all_zero, is_hall, rolled_groups
from stilewalks.rooms import beginning, is_whole, room_less
from stilewalks.scripts import check_script, is_room, script_end
from stilewalks.shows import is_passage
from stilewalks.ways import number_in_side


def are_alike(r, one, other):
    """Whether two scripts are alike."""
    check_script(r, one)
    check_script(r, other)
    return same_ends(r, one, other) and parting_passage(r, one, other) is None


def judge_alike(r, one, other):
    """A certificate that two scripts are alike, or that they are not."""
    check_script(r, one)
    check_script(r, other)
    if not same_ends(r, one, other):
        return "ends", script_end(r, one), script_end(r, other)
    passage = parting_passage(r, one, other)
    if passage is None:
        return ("alike",)
    room, i = passage
    return "stile", room, i, stile_behind(r, one, room, i), stile_behind(r, other, room, i)


def alike_holds(r, one, other, thing):
    """Whether any value is a certificate that judge_alike may tell."""
    check_script(r, one)
    check_script(r, other)
    if not isinstance(thing, tuple) or len(thing) == 0:
        return False
    if thing[0] == "alike":
        return len(thing) == 1 and are_alike(r, one, other)
    if thing[0] == "ends":
        return ends_hold(r, one, other, thing)
    if thing[0] == "stile":
        return stile_holds(r, one, other, thing)
    return False


def ends_hold(r, one, other, thing):
    """Whether a tuple tells the ends of two scripts, and they are unlike."""
    if len(thing) != 3 or not is_room(r, thing[1]) or not is_room(r, thing[2]):
        return False
    return thing[1:] == (script_end(r, one), script_end(r, other)) and thing[1] != thing[2]


def stile_holds(r, one, other, thing):
    """Whether a tuple tells the numbers of a stile behind two scripts, and they are unlike."""
    if len(thing) != 5 or not is_passage(r, thing[1], thing[2]):
        return False
    if not is_whole(thing[3]) or not is_whole(thing[4]) or thing[3] == thing[4]:
        return False
    room, i = thing[1], thing[2]
    return thing[3:] == (stile_behind(r, one, room, i), stile_behind(r, other, room, i))


def alike_in(r, one, other, hall):
    """Whether two scripts are alike in a hall."""
    check_script(r, one)
    check_script(r, other)
    if not is_hall(hall):
        raise BadHall(hall)
    width, figures = hall
    if width == 0:
        return same_ends(r, one, other) and numbers_alike(r, one, other, figures)
    between = room_less(script_end(r, one), script_end(r, other))
    if any([item % width != 0 for item in between]):
        return False
    return rolled_groups(difference_groups(r, one, other), hall) == ()


def same_ends(r, one, other):
    """Whether two scripts have the same end."""
    return script_end(r, one) == script_end(r, other)


def difference_groups(r, one, other):
    """The show of one script less that of another one, in groups."""
    groups = {}
    add_groups(groups, show_groups(r, one), beginning(r), 1)
    add_groups(groups, show_groups(r, other), beginning(r), -1)
    return groups


def difference_top(groups, i):
    """The top of a quotient of the side i of a difference, all moves of which are ahead."""
    side = side_of(groups, i)
    return top_over(side, common_moves(side))


def numbers_alike(r, one, other, figures):
    """Whether all stiles show the same behind two scripts, where figures count."""
    groups = difference_groups(r, one, other)
    for i in range(1, r + 1):
        top = difference_top(groups, i)
        # As each 1 - t^move begins with 1, figures divide all of a top just if they divide what it stands for.
        if not are_all_zero([top[room] for room in top], figures):
            return False
    return True


def parting_passage(r, one, other):
    """A passage whose numbers behind two scripts are unlike; None if there is none."""
    groups = difference_groups(r, one, other)
    for i in range(1, r + 1):
        top = difference_top(groups, i)
        if top:
            # All moves lead ahead, so nothing is added to the number at the least room.
            return sorted(top)[0], i
    return None


def stile_behind(r, script, room, i):
    """The number of a stile behind what is known to be a script."""
    return number_in_side(r, side_of(show_groups(r, script), i), room)
