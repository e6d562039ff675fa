"""n-th parts and roots of rows."""

from math import gcd

from stilewalks.errors import BadNumber, BadRow
from stilewalks.lines import divided_along, is_barring, moved_along, rolled_by
from stilewalks.rooms import beginning, is_whole, room_times
from stilewalks.rounds import row_with
from stilewalks.scripts import check_row, is_row, row_end
from stilewalks.shows import moved_by, plus_times, show_of


def check_row_and_number(r, row, n):
    """Raises BadRow or BadNumber for any values that are no row and no integer from 1 on."""
    check_row(r, row)
    if not is_whole(n) or n < 1:
        raise BadNumber(n)


def judge_part(r, row, n):
    """A certificate that a row has an n-th part, or that it has none."""
    check_row_and_number(r, row, n)
    end, show = row_end(r, row), show_of(r, row)
    for j, item in enumerate(end):
        if item % n != 0:
            return "end", j
    if end == beginning(r):
        for room, i, number in show:
            if number % n != 0:
                return "passage", (room, i)
        return "part", row_with(r, tuple([(room, i, number // n) for room, i, number in show]))
    between = unlike_when_moved(r, row, n)
    if between != ():
        return "moved", between[0][:2]
    return "part", row_with(r, divided_along(less_moved_show(show, divided_room(end, n)), end))


def divided_room(room, n):
    """The room that, times n, is a room."""
    return tuple([item // n for item in room])


def less_moved_show(show, room):
    """A show less itself moved by a room."""
    return plus_times(show, -1, moved_by(show, room))


def part_holds(r, row, n, thing):
    """Whether any value is a certificate that judge_part may tell."""
    check_row_and_number(r, row, n)
    if not isinstance(thing, tuple) or len(thing) != 2:
        return False
    if thing[0] == "part":
        return is_row(r, thing[1]) and is_repeat(r, row, n, thing[1])
    end = row_end(r, row)
    if thing[0] == "end":
        return is_whole(thing[1]) and 0 <= thing[1] < r and end[thing[1]] % n != 0
    if thing[0] == "passage" and end == beginning(r):
        return is_barring(r, thing[1], [triple for triple in show_of(r, row) if triple[2] % n != 0])
    if thing[0] == "moved" and end != beginning(r) and all([item % n == 0 for item in end]):
        return is_barring(r, thing[1], unlike_when_moved(r, row, n))
    return False


def is_repeat(r, row, n, part):
    """Whether a row is alike another one done n times; below 0 that one is undone, and done -n times."""
    end, by = row_end(r, row), row_end(r, part)
    if room_times(n, by) != end:
        return False
    if end == beginning(r):
        return plus_times((), n, show_of(r, part)) == show_of(r, row)
    # What is done n times shows its show times 1 - t^end, divided by 1 - t^by; also for n below 0.
    return less_moved_show(show_of(r, part), end) == less_moved_show(show_of(r, row), by)


def unlike_when_moved(r, row, n):
    """The show of a row rolled along its end, which is n times a room, less the same moved by that room."""
    end = row_end(r, row)
    rolled = rolled_by(show_of(r, row), end)
    return plus_times(rolled, -1, moved_along(rolled, divided_room(end, n), end))


def part_of(r, row, n):
    """An n-th part of a row; None if it has none."""
    word, found = judge_part(r, row, n)
    return found if word == "part" else None


def root_of(r, row):
    """The pair of a root of a row and its power."""
    check_row(r, row)
    show = show_of(r, row)
    if show == ():
        raise BadRow(row)
    shared = 0
    for item in row_end(r, row):
        shared = gcd(shared, item)
    if shared == 0:
        for triple in show:
            shared = gcd(shared, triple[2])
    # From one divisor of this number down to 1, with which the row itself is a part.
    power = shared
    part = part_of(r, row, power)
    while part is None:
        power -= 1
        part = part_of(r, row, power)
    return part, power
