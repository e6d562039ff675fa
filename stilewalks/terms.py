"""Term sums: as tuples, and, while they are reckoned with, as dicts from rooms to numbers."""

from heapq import heappop, heappush

from stilewalks.rooms import beginning, is_whole, room_less, room_plus
from stilewalks.scripts import is_room
from stilewalks.shows import add_number


def is_term(r, thing):
    """Whether any value is a pair as term sums have them."""
    if not isinstance(thing, tuple) or len(thing) != 2:
        return False
    return is_room(r, thing[0]) and is_whole(thing[1]) and thing[1] != 0


def is_term_sum(r, thing):
    """Whether any value is a term sum."""
    if not isinstance(thing, tuple) or not all([is_term(r, item) for item in thing]):
        return False
    rooms = [room for room, _ in thing]
    return all([one < other for one, other in zip(rooms, rooms[1:])])


def without_zeros(numbers):
    """A dict without the keys whose number is 0."""
    return {key: numbers[key] for key in numbers if numbers[key] != 0}


def sum_with(numbers):
    """The term sum with the numbers of a dict."""
    return tuple([(room, numbers[room]) for room in sorted(numbers) if numbers[room] != 0])


def moved_terms(numbers, room, many):
    """A term sum times t^room, and times an integer other than 0."""
    return {room_plus(place, room): many * numbers[place] for place in numbers}


def less_moved(numbers, move):
    """A term sum times 1 - t^move."""
    product = {room: numbers[room] for room in numbers}
    for room in numbers:
        add_number(product, room_plus(room, move), -numbers[room])
    return without_zeros(product)


def less_all_moved(numbers, moves):
    """A term sum times 1 - t^move for all moves."""
    for move in moves:
        numbers = less_moved(numbers, move)
    return numbers


def numbers_in(terms):
    """The dict from rooms to numbers that goes with a term sum."""
    return {room: number for room, number in terms}


def add_product(numbers, one, other, many):
    """Adds the product of two term sums, times an integer, to a dict."""
    factors = [(room, other[room]) for room in other]
    for first in one:
        number = many * one[first]
        for second, factor in factors:
            # Written out instead of called, as great determinants come by here half a million times.
            room = tuple([a + b for a, b in zip(first, second)])
            numbers[room] = numbers.get(room, 0) + number * factor


def table_determinant(r, table):
    """The determinant of a table of k rows with k term sums each; that of a table without rows is 1."""
    # The determinants of the first rows with some of the columns, told by the tuple of these columns.
    found = {(): {beginning(r): 1}}
    for row in table:
        longer = {}
        for columns in found:
            for j, terms in enumerate(row):
                if j not in columns:
                    behind = len([column for column in columns if column > j])
                    sign = -1 if behind % 2 == 1 else 1
                    numbers = longer.setdefault(tuple(sorted(columns + (j,))), {})
                    add_product(numbers, found[columns], terms, sign)
        found = {columns: without_zeros(longer[columns]) for columns in longer}
    return found[tuple(range(len(table)))]


def divided_terms(one, other):
    """The term sum that, times another one that is not zero, is the first one; None if there is none."""
    rest = {room: one[room] for room in one}
    queue = sorted(rest)
    first = min(list(other))
    low, high = room_less(least_items(one), least_items(other)), room_less(greatest_items(one), greatest_items(other))
    quotient = {}
    # The least room that is left can only come from the least one of the divisor.
    while queue:
        room = heappop(queue)
        number = rest.pop(room)
        if number == 0:
            continue
        move = room_less(room, first)
        if number % other[first] != 0 or not is_between(low, move, high):
            return None
        quotient[move] = number // other[first]
        for place in other:
            behind = room_plus(place, move)
            if place != first:
                if behind not in rest:
                    heappush(queue, behind)
                add_number(rest, behind, -quotient[move] * other[place])
    return quotient


def least_items(numbers):
    """For each position the least item of all rooms of a term sum."""
    return tuple([min(items) for items in columns_of(numbers)])


def greatest_items(numbers):
    """For each position the greatest item of all rooms of a term sum."""
    return tuple([max(items) for items in columns_of(numbers)])


def columns_of(numbers):
    """For each position the items of all rooms of a term sum."""
    rooms = list(numbers)
    return [[room[at] for room in rooms] for at in range(len(rooms[0]))]


def is_between(low, room, high):
    """Whether no item of a room is below or above those of two others."""
    return all([a <= b <= c for a, b, c in zip(low, room, high)])
