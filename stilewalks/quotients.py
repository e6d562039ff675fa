"""Quotients: what stiles show behind scripts, told by short sums."""

from stilewalks.errors import BadPassage
from stilewalks.groups import common_moves, show_groups, side_of, top_over
from stilewalks.rooms import beginning, is_ahead, room_less, room_plus
from stilewalks.scripts import check_script, is_room
from stilewalks.shows import is_passage
from stilewalks.terms import is_term_sum, less_all_moved, moved_terms, sum_with
from stilewalks.ways import number_in_side


def is_quotient(r, thing):
    """Whether any value is a quotient."""
    if not isinstance(thing, tuple) or len(thing) != 2 or not is_term_sum(r, thing[0]):
        return False
    moves = thing[1]
    return isinstance(moves, tuple) and all([is_room(r, move) and move != beginning(r) for move in moves])


def quotient_of(r, script, i):
    """A quotient of the side i of the show of a script."""
    check_script(r, script)
    side = side_of(show_groups(r, script), i)
    moves = common_moves(side)
    return sum_with(top_over(side, moves)), tuple(moves)


def quotient_holds(r, script, i, thing):
    """Whether any value is a quotient that stands for the side i of the show of a script."""
    check_script(r, script)
    if not is_quotient(r, thing):
        return False
    top, moves = turned_ahead(r, thing[0], thing[1])
    side = side_of(show_groups(r, script), i)
    own_moves = common_moves(side)
    return are_equal(top_over(side, own_moves), own_moves, top, moves)


def turned_ahead(r, top, moves):
    """The top, as a dict, and the moves of a quotient, with all moves that are not ahead turned round."""
    room, sign, turned = beginning(r), 1, []
    for move in moves:
        if is_ahead(move):
            turned.append(move)
        else:
            # 1 / (1 - t^m) is -t^(-m) / (1 - t^(-m)).
            turned.append(room_less(beginning(r), move))
            room, sign = room_less(room, move), -sign
    return moved_terms({place: number for place, number in top}, room, sign), turned


def are_equal(one, one_moves, other, other_moves):
    """Whether two quotients stand for the same, their tops being dicts and all their moves ahead."""
    if not one or not other:
        return not one and not other
    by_one, by_other = list(other_moves), []
    for move in one_moves:
        if move in by_one:
            by_one.remove(move)
        else:
            by_other.append(move)
    # Multiplying out takes long for many moves, and most unlike quotients part at the edges already.
    if edges(one, by_one) != edges(other, by_other):
        return False
    return less_all_moved(one, by_one) == less_all_moved(other, by_other)


def edges(top, moves):
    """The least and the greatest room, each with its number, of a top times 1 - t^move for all moves."""
    rooms = sorted(top)
    room, number = rooms[-1], top[rooms[-1]]
    for move in moves:
        room, number = room_plus(room, move), -number
    return (rooms[0], top[rooms[0]]), (room, number)


def number_at(r, script, room, i):
    """The number of a stile behind a script."""
    check_script(r, script)
    if not is_passage(r, room, i):
        raise BadPassage((room, i))
    return number_in_side(r, side_of(show_groups(r, script), i), room)
