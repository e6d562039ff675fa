"""Shows that rows have, and rows that have told shows."""

from stilewalks.errors import NotBalanced
from stilewalks.rooms import beginning
from stilewalks.rounds import row_with, show_pieces
from stilewalks.scripts import is_room, is_row
from stilewalks.shows import check_show, is_show, left_over, show_of


def over_elsewhere(r, show):
    """What a show leaves over at rooms other than the beginning, as left_over tells it."""
    return [(room, number) for room, number in left_over(r, show) if room != beginning(r)]


def barred_by(r, show):
    """A certificate that a show is not balanced; None if it is balanced."""
    over = over_elsewhere(r, show)
    for room, number in over:
        if number != -1:
            return "room", room
    # As all that is left over adds up to 0, the beginning is right if all other rooms are.
    if len(over) > 1:
        return "rooms", over[0][0], over[1][0]
    return None


def judge_show(r, show):
    """A certificate that a show is balanced, or that it is not."""
    check_show(r, show)
    barred = barred_by(r, show)
    if barred is None:
        return "row", row_with(r, show)
    return barred


def show_holds(r, show, thing):
    """Whether any value is a certificate that judge_show may tell."""
    check_show(r, show)
    if not isinstance(thing, tuple) or len(thing) < 2:
        return False
    if thing[0] == "row":
        return len(thing) == 2 and is_row(r, thing[1]) and show_of(r, thing[1]) == show
    if not all([is_room(r, room) for room in thing[1:]]):
        return False
    numbers = {room: number for room, number in over_elsewhere(r, show)}
    if thing[0] == "room":
        return len(thing) == 2 and numbers.get(thing[1], 0) not in (0, -1)
    if thing[0] == "rooms" and len(thing) == 3:
        one, other = thing[1:]
        return one < other and numbers.get(one, 0) == -1 and numbers.get(other, 0) == -1
    return False


def is_balanced(r, thing):
    """Whether any value is a balanced show."""
    return is_show(r, thing) and barred_by(r, thing) is None


def row_for(r, show):
    """A row with a show."""
    check_show(r, show)
    barred = barred_by(r, show)
    if barred is not None:
        raise NotBalanced(barred)
    return row_with(r, show)


def pieces_of(r, show):
    """The pieces of a show."""
    check_show(r, show)
    return show_pieces(show)
