"""Halls that are rolled up: what their stiles show, and in which of them two rows part."""

from math import gcd

from stilewalks.errors import BadHall
from stilewalks.groups import show_groups
from stilewalks.rooms import is_whole, room_less, room_plus, room_times
from stilewalks.scripts import check_row, check_script, row_end
from stilewalks.shows import add_number, plus_times, show_of, show_with


def is_hall(thing):
    """Whether any value is a hall."""
    if not isinstance(thing, tuple) or len(thing) != 2:
        return False
    if not is_whole(thing[0]) or not is_whole(thing[1]):
        return False
    return thing[0] >= 0 and thing[1] >= 0 and thing[1] != 1


def rolled_show(r, script, hall):
    """What the stiles of a rolled hall show behind a script."""
    check_script(r, script)
    if not is_hall(hall) or hall[0] == 0:
        raise BadHall(hall)
    return rolled_groups(show_groups(r, script), hall)


def rolled_groups(groups, hall):
    """What the stiles of a rolled hall show, from a show in groups."""
    width, figures = hall
    total = {}
    for repeats, numbers in groups.items():
        rolled = {}
        for room, i in numbers:
            add_number(rolled, (by_remainders(room, width), i), numbers[(room, i)])
        for move, n in repeats:
            rolled = rolled_again(rolled, move, n, width)
        for passage in rolled:
            add_number(total, passage, rolled[passage])
    return told_by(total, figures)


def by_remainders(room, width):
    """A room of a rolled hall, told by remainders."""
    return tuple([item % width for item in room])


def rolled_again(numbers, move, n, width):
    """Rolled numbers of a block that is done n times and leads by a move."""
    shared = width
    for item in move:
        shared = gcd(shared, item)
    # Done so many times the block leads back to where it began.
    times_round = width // shared
    rounds, more = divmod(n, times_round)
    total = {}
    for k in range(min(n, times_round)):
        many = rounds + 1 if k < more else rounds
        by = room_times(k, move)
        for room, i in numbers:
            add_number(total, (by_remainders(room_plus(room, by), width), i), many * numbers[(room, i)])
    return total


def told_by(numbers, figures):
    """The show of a dict from passages to numbers, in a hall with these figures."""
    if figures == 0:
        return show_with(numbers)
    return show_with({passage: numbers[passage] % figures for passage in numbers})


def difference_of(r, one, other):
    """What tells two rows apart: the difference of their ends, and that of their shows."""
    check_row(r, one)
    check_row(r, other)
    return room_less(row_end(r, one), row_end(r, other)), plus_times(show_of(r, one), -1, show_of(r, other))


def rolled_difference(difference, width):
    """The numbers that two rows leave unlike in a hall of a width; with 1 among them if the ends are unlike."""
    end, show = difference
    numbers = {}
    for room, i, number in show:
        add_number(numbers, (by_remainders(room, width), i), number)
    found = [numbers[passage] for passage in numbers]
    if any([item % width != 0 for item in end]):
        found.append(1)
    return found


def first_plain_width(difference):
    """A width from which on all rooms in which two rows may part stay apart."""
    end, show = difference
    sizes = [abs(item) for item in end]
    for at in range(len(end)):
        items = [room[at] for room, _, _ in show]
        if items:
            sizes.append(max(items) - min(items))
    return max(sizes) + 1


def parting_hall(r, one, other):
    """The least pair of a width and figures with which two rows are not alike; None if they are alike."""
    difference = difference_of(r, one, other)
    for width in range(1, first_plain_width(difference) + 1):
        # Figures tell the rows apart if they do not divide all these numbers.
        shared = 0
        for number in rolled_difference(difference, width):
            shared = gcd(shared, number)
        if shared != 0:
            figures = 2
            while shared % figures == 0:
                figures += 1
            return width, figures
    return None


def odd_widths(r, one, other, figures):
    """The widths at which two rows are alike although they are not from some width on, or the reverse; and the rest."""
    difference = difference_of(r, one, other)
    plain = first_plain_width(difference)
    alike = [are_all_zero(rolled_difference(difference, width), figures) for width in range(1, plain + 1)]
    rest = alike[-1]
    return tuple([k + 1 for k, thing in enumerate(alike) if thing != rest]), rest


def are_all_zero(numbers, figures):
    """Whether numbers are all 0 where figures count."""
    if figures == 0:
        return all([number == 0 for number in numbers])
    return all([number % figures == 0 for number in numbers])
