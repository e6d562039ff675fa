"""Shows: the numbers that stiles show."""

from stilewalks.errors import BadPassage, BadRoom, BadRow, BadShow
from stilewalks.rooms import beginning, is_direction, is_whole, neighbour, room_plus
from stilewalks.scripts import is_room, is_row


def is_passage(r, room, i):
    """Whether any two values are the two parts of a passage."""
    return is_room(r, room) and is_direction(r, i)


def is_triple(r, thing):
    """Whether any value is a triple as shows have them."""
    if not isinstance(thing, tuple) or len(thing) != 3:
        return False
    return is_passage(r, thing[0], thing[1]) and is_whole(thing[2]) and thing[2] != 0


def is_show(r, thing):
    """Whether any value is a show."""
    if not isinstance(thing, tuple) or not all([is_triple(r, item) for item in thing]):
        return False
    passages = [(room, i) for room, i, _ in thing]
    return all([one < other for one, other in zip(passages, passages[1:])])


def check_show(r, show):
    """Raises BadShow for any value that is no show."""
    if not is_show(r, show):
        raise BadShow(show)


def add_number(numbers, key, number):
    """Adds a number to the one that a dict has for a key, or to 0."""
    numbers[key] = numbers.get(key, 0) + number


def show_with(numbers):
    """The show with the numbers of a dict that has passages as its keys."""
    return tuple([(room, i, numbers[(room, i)]) for room, i in sorted(numbers) if numbers[(room, i)] != 0])


def show_of(r, row):
    """The show of a row."""
    if not is_row(r, row):
        raise BadRow(row)
    numbers = {}
    room = beginning(r)
    for step in row:
        ahead = neighbour(room, step)
        if step > 0:
            add_number(numbers, (room, step), 1)
        else:
            add_number(numbers, (ahead, -step), -1)
        room = ahead
    return show_with(numbers)


def moved(r, show, room):
    """A show with a room added to all its rooms."""
    check_show(r, show)
    if not is_room(r, room):
        raise BadRoom(room)
    return moved_by(show, room)


def moved_by(show, room):
    """What is known to be a show, moved by a room."""
    return tuple([(room_plus(place, room), i, number) for place, i, number in show])


def plus(r, one, other):
    """The sum of two shows."""
    check_show(r, one)
    check_show(r, other)
    return plus_times(one, 1, other)


def plus_times(one, many, other):
    """What is known to be a show, plus another one multiplied by an integer."""
    numbers = {}
    for room, i, number in one:
        add_number(numbers, (room, i), number)
    for room, i, number in other:
        add_number(numbers, (room, i), many * number)
    return show_with(numbers)


def times(r, number, show):
    """A show with all its numbers multiplied by an integer."""
    check_show(r, show)
    if number == 0:
        return ()
    return tuple([(room, i, number * many) for room, i, many in show])


def number_in(r, show, room, i):
    """The number that a show tells for the stile of a passage."""
    check_show(r, show)
    if not is_passage(r, room, i):
        raise BadPassage((room, i))
    for place, way, number in show:
        if place == room and way == i:
            return number
    return 0


def left_over(r, show):
    """The rooms at which a show leaves something over, each with what is left over there."""
    check_show(r, show)
    rest = {}
    for room, i, number in show:
        add_number(rest, room, number)
        add_number(rest, neighbour(room, i), -number)
    return tuple([(room, rest[room]) for room in sorted(rest) if rest[room] != 0])


def rows_alike(r, one, other):
    """Whether two rows are alike."""
    # What is left over tells the end of a row, so rows with equal shows have equal ends.
    return show_of(r, one) == show_of(r, other)
