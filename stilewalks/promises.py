"""Promises about named rows."""

from stilewalks.led import is_led, judge_led
from stilewalks.lines import unlike_passage
from stilewalks.orders import is_either_order, judge_order
from stilewalks.rooms import beginning
from stilewalks.scripts import row_end
from stilewalks.shows import number_in, show_of


def is_promise(rows, thing):
    """Whether any value is a promise with names that a dict of rows has."""
    if not isinstance(thing, tuple) or len(thing) < 2 or not all([is_name_in(rows, name) for name in thing[1:]]):
        return False
    if thing[0] == "home":
        return len(thing) == 2
    return thing[0] in ("alike", "order", "led") and len(thing) == 3 and thing[1] < thing[2]


def is_name_in(rows, thing):
    """Whether any value is a name that a dict of rows has."""
    return isinstance(thing, str) and thing in rows


def against(r, rows, promise):
    """A certificate against a promise about the rows of a dict; None if it holds."""
    one, other = rows[promise[1]], rows[promise[-1]]
    if promise[0] == "alike":
        return against_alike(r, one, other)
    if promise[0] == "home":
        end = row_end(r, one)
        return None if end == beginning(r) else ("end", end)
    if promise[0] == "order":
        return None if is_either_order(r, one, other) else judge_order(r, one, other)
    return None if is_led(r, one, other) else judge_led(r, one, other)


def against_alike(r, one, other):
    """A certificate that two rows are not alike; None if they are."""
    end, other_end = row_end(r, one), row_end(r, other)
    if end != other_end:
        return "ends", end, other_end
    show, other_show = show_of(r, one), show_of(r, other)
    passage = unlike_passage(show, other_show)
    if passage is None:
        return None
    room, i = passage
    return "stile", room, i, number_in(r, show, room, i), number_in(r, other_show, room, i)
