"""Polynomials by p: as ascending tuples, and, while they are reckoned with, as dicts from triples to numbers.

A triple is told by its level, the tuple (sum of its items, triple): the higher triple has the greater level.
"""

from heapq import heapify, heappop, heappush

from stilewalks.rooms import is_whole, room_less, room_plus


def is_polynomial(p, thing):
    """Whether any value is a polynomial by p."""
    if not isinstance(thing, tuple) or not all([is_letters(p, item) for item in thing]):
        return False
    triples = [triple for triple, _ in thing]
    return all([one < other for one, other in zip(triples, triples[1:])])


def is_letters(p, thing):
    """Whether any value is a pair as polynomials have them."""
    if not isinstance(thing, tuple) or len(thing) != 2:
        return False
    triple, number = thing
    if not isinstance(triple, tuple) or len(triple) != 3:
        return False
    if not all([is_whole(item) and item >= 0 for item in triple]):
        return False
    return is_whole(number) and 1 <= number < p


def level_of(triple):
    """The level of a triple."""
    return sum(list(triple)), triple


def head_of(polynomial):
    """The highest triple of a polynomial other than zero, given as a dict or as a list of triples."""
    return max(list(polynomial), key=level_of)


def is_over(one, other):
    """Whether a triple is over another one."""
    return one[0] >= other[0] and one[1] >= other[1] and one[2] >= other[2]


def greater_items(one, other):
    """The triple that has at each position the greater item of two triples."""
    return tuple([max(a, b) for a, b in zip(one, other)])


def polynomial_with(numbers):
    """The polynomial with the numbers of a dict."""
    return tuple([(triple, numbers[triple]) for triple in sorted(numbers)])


def times_triple(p, polynomial, triple, many):
    """A polynomial times a triple and a number, by p."""
    return {room_plus(place, triple): polynomial[place] * many % p for place in polynomial}


def less(p, one, other):
    """A polynomial less another one, by p."""
    numbers = {triple: one[triple] for triple in one}
    for triple in other:
        number = (numbers.get(triple, 0) - other[triple]) % p
        if number == 0:
            del numbers[triple]
        else:
            numbers[triple] = number
    return numbers


def first_below(triple, heads):
    """The position of the first head that a triple is over; None if there is none."""
    for at, head in enumerate(heads):
        if is_over(triple, head):
            return at
    return None


def reduced_by(p, polynomial, members, heads):
    """The rest of a polynomial by a base, and what is taken away: a list of (position, triple, number)."""
    numbers = {triple: polynomial[triple] for triple in polynomial}
    # A heap tells the least first: what is waiting are the triples with all signs turned.
    waiting = [turned(triple) for triple in numbers]
    heapify(waiting)
    rest, taken = {}, []
    while waiting:
        triple = heappop(waiting)[1]
        triple = room_less((0, 0, 0), triple)
        number = numbers.pop(triple)
        if number == 0:
            continue
        at = first_below(triple, heads)
        if at is None:
            rest[triple] = number
            continue
        missing = room_less(triple, heads[at])
        taken.append((at, missing, number))
        for place in members[at]:
            there = room_plus(place, missing)
            # The head takes away the triple itself, which is told already.
            if there != triple:
                if there not in numbers:
                    heappush(waiting, turned(there))
                numbers[there] = (numbers.get(there, 0) - number * members[at][place]) % p
    return rest, taken


def turned(triple):
    """The level of a triple with all signs turned."""
    return -sum(list(triple)), room_less((0, 0, 0), triple)


def are_apart(one, other):
    """Whether no item of two triples is above 0 in both."""
    return all([a == 0 or b == 0 for a, b in zip(one, other)])


def crossing(p, one, head, other, other_head):
    """What two members of a base leave when their heads are made one and taken from each other."""
    both = greater_items(head, other_head)
    first = times_triple(p, one, room_less(both, head), 1)
    return less(p, first, times_triple(p, other, room_less(both, other_head), 1))


def is_closed(p, members, heads):
    """Whether a base is closed."""
    for k, head in enumerate(heads):
        for j in range(k):
            # B. Buchberger: if the other rests are zero, so are those of members whose heads are apart.
            if not are_apart(heads[j], head):
                rest, _ = reduced_by(p, crossing(p, members[j], heads[j], members[k], head), members, heads)
                if rest:
                    return False
    return True
