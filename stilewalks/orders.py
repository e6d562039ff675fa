"""Rows that can be done in either order."""

from stilewalks.lines import is_barring
from stilewalks.parts import is_repeat, root_of
from stilewalks.rooms import beginning, is_whole
from stilewalks.scripts import check_row, is_row, row_end
from stilewalks.shows import plus_times, show_of


def is_either_order(r, one, other):
    """Whether two rows can be done in either order."""
    check_row(r, one)
    check_row(r, other)
    return between_orders(r, one, other) == ()


def between_orders(r, one, other):
    """The show of one row and then the other, less that of the other and then the one."""
    return plus_times(show_of(r, one + other), -1, show_of(r, other + one))


def judge_order(r, one, other):
    """A certificate that two rows can be done in either order, or that they cannot."""
    check_row(r, one)
    check_row(r, other)
    between = between_orders(r, one, other)
    if between != ():
        return "passage", between[0][:2]
    start = beginning(r)
    end, other_end = row_end(r, one), row_end(r, other)
    if end == start and other_end == start:
        return ("closed",)
    if end == start:
        # Beside a row that is not closed, a closed one can only be alike to ().
        return "row", other, 0, 1
    root, power = root_of(r, one)
    return "row", root, power, quotient_along(other_end, row_end(r, root))


def quotient_along(room, by):
    """The integer with which a room, not the beginning, is multiplied to give another one."""
    at = 0
    while by[at] == 0:
        at += 1
    return room[at] // by[at]


def order_holds(r, one, other, thing):
    """Whether any value is a certificate that judge_order may tell."""
    check_row(r, one)
    check_row(r, other)
    if not isinstance(thing, tuple) or len(thing) == 0:
        return False
    if thing[0] == "closed":
        return len(thing) == 1 and row_end(r, one) == beginning(r) and row_end(r, other) == beginning(r)
    if thing[0] == "passage":
        return len(thing) == 2 and is_barring(r, thing[1], between_orders(r, one, other))
    if thing[0] == "row" and len(thing) == 4:
        row, k, l = thing[1:]
        if not is_row(r, row) or not is_whole(k) or not is_whole(l):
            return False
        return is_repeat(r, one, k, row) and is_repeat(r, other, l, row)
    return False
