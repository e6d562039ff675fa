"""Closed bases, with the factors by which their members come from told polynomials.

A member is a pair: a polynomial as a dict, and its factors: a list of dicts from rooms to numbers by p, one for
each told polynomial. The member is the sum of the products, up to multiples of the tie.
"""

from heapq import heappop, heappush

from stilewalks.polynomials import are_apart, crossing, greater_items, head_of, is_over, level_of, less
from stilewalks.polynomials import reduced_by, times_triple
from stilewalks.rooms import room_less


def inverse_by(p, number):
    """The number from 1 to p - 1 that, times a number, leaves 1 by p."""
    inverse = 1
    while inverse * number % p != 1:
        inverse += 1
    return inverse


def room_of(triple):
    """The room for which a triple stands: the third letter is the undone product of the first two."""
    return triple[0] - triple[2], triple[1] - triple[2]


def less_times(p, factors, triple, many, others):
    """Factors, less other factors times a triple and a number."""
    return [less(p, one, times_triple(p, other, room_of(triple), many)) for one, other in zip(factors, others)]


def reduced_member(p, member, base):
    """The rest of a member by the base of other ones, with its factors."""
    polynomial, factors = member
    rest, taken = reduced_by(p, polynomial, [one for one, _ in base], [head_of(one) for one, _ in base])
    for at, triple, many in taken:
        factors = less_times(p, factors, triple, many, base[at][1])
    return rest, factors


def with_head_one(p, member):
    """A member other than zero, multiplied so that its head has the number 1."""
    polynomial, factors = member
    many = inverse_by(p, polynomial[head_of(polynomial)])
    return times_triple(p, polynomial, (0, 0, 0), many), [times_triple(p, one, (0, 0), many) for one in factors]


def crossed_members(p, one, other):
    """What two members leave when their heads are taken from each other, with its factors."""
    head, other_head = head_of(one[0]), head_of(other[0])
    both = greater_items(head, other_head)
    factors = [times_triple(p, factor, room_of(room_less(both, head)), 1) for factor in one[1]]
    factors = less_times(p, factors, room_less(both, other_head), 1, other[1])
    return crossing(p, one[0], head, other[0], other_head), factors


def closed_members(p, members):
    """Members of a closed base whose multiples add up to the same as those of told members."""
    base, heads, pairs = [], [], []
    waiting = list(members)
    while waiting or pairs:
        if waiting:
            found = waiting.pop()
        else:
            _, k, j = heappop(pairs)
            found = crossed_members(p, base[j], base[k])
        rest, factors = reduced_member(p, found, base)
        if rest:
            base.append(with_head_one(p, (rest, factors)))
            heads.append(head_of(rest))
            k = len(base) - 1
            for j in range(k):
                if not are_apart(heads[j], heads[k]):
                    heappush(pairs, (level_of(greater_items(heads[j], heads[k])), k, j))
    return base


def least_members(p, members):
    """The polynomials of the least base, from those of a closed one, the heads ascending from the lowest one."""
    polynomials = sorted([one for one, _ in members], key=head_level)
    # No head is over another one with the same triple, as each member came as a rest by those ahead of it.
    kept = []
    for one in polynomials:
        if not any([is_over(head_of(one), head_of(other)) for other in kept]):
            kept.append(one)
    heads = [head_of(one) for one in kept]
    least = []
    for at, one in enumerate(kept):
        # No triple of a member is over a head that is higher than its own.
        rest, _ = reduced_by(p, one, kept[:at], heads[:at])
        least.append(rest)
    return least


def head_level(polynomial):
    """The level of the head of a polynomial."""
    return level_of(head_of(polynomial))
