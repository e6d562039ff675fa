"""Sums of terms: added, multiplied, divided; determinants and values."""

from stilewalks.errors import BadPoint, BadRoom, BadSum
from stilewalks.scripts import is_room
from stilewalks.shows import add_number
from stilewalks.terms import add_product, divided_terms, is_term_sum, moved_terms, numbers_in, sum_with
from stilewalks.terms import table_determinant

MOST_ROWS = 4


def is_sum(r, thing):
    """Whether any value is a term sum."""
    return is_term_sum(r, thing)


def check_sum(r, terms):
    """Raises BadSum for any value that is no term sum."""
    if not is_term_sum(r, terms):
        raise BadSum(terms)


def sum_plus(r, one, other):
    """The sum of two term sums."""
    check_sum(r, one)
    check_sum(r, other)
    numbers = numbers_in(one)
    for room, number in other:
        add_number(numbers, room, number)
    return sum_with(numbers)


def sum_times(r, one, other):
    """The product of two term sums."""
    check_sum(r, one)
    check_sum(r, other)
    numbers = {}
    add_product(numbers, numbers_in(one), numbers_in(other), 1)
    return sum_with(numbers)


def sum_moved(r, terms, room):
    """A term sum with a room added to all its rooms."""
    check_sum(r, terms)
    if not is_room(r, room):
        raise BadRoom(room)
    return sum_with(moved_terms(numbers_in(terms), room, 1))


def is_unit(r, thing):
    """Whether any value is a unit."""
    return is_term_sum(r, thing) and len(thing) == 1 and abs(thing[0][1]) == 1


def divided(r, one, other):
    """The term sum that, times the second one, is the first one; None if there is none."""
    check_sum(r, one)
    check_sum(r, other)
    if other == ():
        raise BadSum(other)
    if one == ():
        return ()
    quotient = divided_terms(numbers_in(one), numbers_in(other))
    return None if quotient is None else sum_with(quotient)


def is_table(r, thing):
    """Whether any value is a table."""
    if not isinstance(thing, tuple) or not 1 <= len(thing) <= MOST_ROWS:
        return False
    if not all([isinstance(row, tuple) and len(row) == len(thing) for row in thing]):
        return False
    return all([is_term_sum(r, terms) for row in thing for terms in row])


def determinant(r, table):
    """The determinant of a table."""
    if not is_table(r, table):
        raise BadSum(table)
    return sum_with(table_determinant(r, [[numbers_in(terms) for terms in row] for row in table]))


def value_at(r, terms, p, point):
    """The value of a term sum at a point modulo a prime number p."""
    check_sum(r, terms)
    if not is_room(r, point) or not all([1 <= item < p for item in point]):
        raise BadPoint(point)
    value = 0
    for room, number in terms:
        for base, exponent in zip(point, room):
            # By the prime number p each base to the power of p - 1 leaves 1, so powers below 0 are told, too.
            number = number * power_by(base, exponent % (p - 1), p) % p
        value += number
    return value % p


def power_by(base, exponent, p):
    """The remainder by p of a base to the power of an exponent from 0 on."""
    power = 1
    while exponent > 0:
        if exponent % 2 == 1:
            power = power * base % p
        base = base * base % p
        exponent //= 2
    return power
