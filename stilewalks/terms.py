"""Term sums: as tuples, and, while they are reckoned with, as dicts from rooms to numbers."""

from stilewalks.rooms import is_whole, room_plus
from stilewalks.scripts import is_room
from stilewalks.shows import add_number


def is_term(r, thing):
    """Whether any value is a pair as term sums have them."""
    if not isinstance(thing, tuple) or len(thing) != 2:
        return False
    return is_room(r, thing[0]) and is_whole(thing[1]) and thing[1] != 0


def is_term_sum(r, thing):
    """Whether any value is a term sum."""
    if not isinstance(thing, tuple) or not all([is_term(r, item) for item in thing]):
        return False
    rooms = [room for room, _ in thing]
    return all([one < other for one, other in zip(rooms, rooms[1:])])


def without_zeros(numbers):
    """A dict without the keys whose number is 0."""
    return {key: numbers[key] for key in numbers if numbers[key] != 0}


def sum_with(numbers):
    """The term sum with the numbers of a dict."""
    return tuple([(room, numbers[room]) for room in sorted(numbers) if numbers[room] != 0])


def moved_terms(numbers, room, many):
    """A term sum times t^room, and times an integer other than 0."""
    return {room_plus(place, room): many * numbers[place] for place in numbers}


def less_moved(numbers, move):
    """A term sum times 1 - t^move."""
    product = {room: numbers[room] for room in numbers}
    for room in numbers:
        add_number(product, room_plus(room, move), -numbers[room])
    return without_zeros(product)


def less_all_moved(numbers, moves):
    """A term sum times 1 - t^move for all moves."""
    for move in moves:
        numbers = less_moved(numbers, move)
    return numbers
