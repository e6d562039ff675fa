"""Heights: closed shows of two directions as sums of squares."""

from stilewalks.errors import BadHeights, BadRoom, NotClosed
from stilewalks.rooms import neighbour
from stilewalks.rounds import row_around
from stilewalks.scripts import is_room
from stilewalks.shows import add_number, check_show, left_over, show_with
from stilewalks.terms import is_term_sum, sum_with


def is_heights(thing):
    """Whether any value is heights."""
    return is_term_sum(2, thing)


def heights_of(show):
    """The heights of a closed show."""
    check_show(2, show)
    if left_over(2, show) != ():
        raise NotClosed(show)
    columns = {}
    for (column, place), i, number in show:
        if i == 1:
            columns.setdefault(column, []).append((place, number))
    heights = {}
    for column in columns:
        fill_column(heights, column, columns[column])
    return sum_with(heights)


def fill_column(heights, column, marks):
    """Adds the heights of the rooms (column, ..), from the pairs (place, number) of its passages, ascending."""
    # A passage (room, 1) shows the height of its room less that of the room below. In a closed show the
    # last height is 0 again.
    level = 0
    for (place, number), (later, _) in zip(marks, marks[1:]):
        level += number
        if level != 0:
            for k in range(place, later):
                heights[(column, k)] = level


def show_of_heights(heights):
    """The show with told heights."""
    if not is_heights(heights):
        raise BadHeights(heights)
    numbers = {}
    for room, number in heights:
        add_number(numbers, (room, 1), number)
        add_number(numbers, (neighbour(room, 1), 2), number)
        add_number(numbers, (neighbour(room, 2), 1), -number)
        add_number(numbers, (room, 2), -number)
    return show_with(numbers)


def area_of(show):
    """The sum of all heights of a closed show."""
    return sum([number for _, number in heights_of(show)])


def square_row(room):
    """A row whose show is the square of a room."""
    if not is_room(2, room):
        raise BadRoom(room)
    return row_around(room, (1, 2, -1, -2))
