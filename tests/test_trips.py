"""Part 10: what follows from told round trips, by p figures."""

import unittest
from itertools import product
from random import Random

from stilewalks.built import row_for
from stilewalks.errors import BadHeights, BadNumber, BadRow, BadSum, NotClosed
from stilewalks.heights import heights_of, show_of_heights
from stilewalks.scripts import undone_row
from stilewalks.shows import show_of
from stilewalks.trips import (does_follow, follows_holds, is_base, is_closed_base, judge_follows, least_base, many_rows, polynomial_of, rest_by)
from tests.helping import NOTHING, Case, listed, near_misses
from tests.test_led import LOOP
from tests.test_rows import some_row, walked
from tests.test_termsums import added, multiplied, no_sums, some_sum

NO_FIGURES = tuple(thing for thing in NOTHING if type(thing) is not int or thing != 5) + (0, 1, 4, 6, 7, -2, -3, -5, 25, True, "2", (2,), [3], 10 ** 39)
STRIP = (1, 1, 2, -1, -1, -2)


def level(triple):
    return sum(triple), triple


def head_by_hand(polynomial):
    return max(polynomial, key=lambda pair: level(pair[0]))


def is_over(one, other):
    return all(a >= b for a, b in zip(one, other))


def by(p, terms):
    return tuple((key, number % p) for key, number in terms if number % p)


def rest_by_hand(p, polynomial, base):
    """The rest, word by word as [10.3] tells it."""
    numbers = dict(polynomial)
    heads = [head_by_hand(member)[0] for member in base]
    while True:
        found = [triple for triple in numbers if any(is_over(triple, head) for head in heads)]
        if not found:
            return tuple(sorted(numbers.items()))
        triple = max(found, key=level)
        k = next(k for k, head in enumerate(heads) if is_over(triple, head))
        number = numbers[triple]
        for place, many in base[k]:
            there = tuple(a + b - c for a, b, c in zip(place, triple, heads[k]))
            numbers[there] = (numbers.get(there, 0) - number * many) % p
            if not numbers[there]:
                del numbers[there]


def crossed_by_hand(p, one, other):
    """The first member made one with the second at the head, less the second one."""
    u, v = head_by_hand(one)[0], head_by_hand(other)[0]
    w = tuple(max(a, b) for a, b in zip(u, v))
    first = [(tuple(a + b - c for a, b, c in zip(place, w, u)), number) for place, number in one]
    second = [(tuple(a + b - c for a, b, c in zip(place, w, v)), -number) for place, number in other]
    return by(p, added(first, second))


def is_closed_by_hand(p, base):
    return all(rest_by_hand(p, crossed_by_hand(p, one, other), base) == () for k, one in enumerate(base) for other in base[k + 1:])


def is_base_by_hand(p, thing):
    if type(thing) is not tuple:
        return False
    for member in thing:
        if type(member) is not tuple or not member:
            return False
        for pair in member:
            if type(pair) is not tuple or len(pair) != 2 or type(pair[0]) is not tuple or len(pair[0]) != 3:
                return False
            if not all(type(item) is int and item >= 0 for item in pair[0]) or type(pair[1]) is not int or not 1 <= pair[1] < p:
                return False
        if [pair[0] for pair in member] != sorted({pair[0] for pair in member}) or head_by_hand(member)[1] != 1:
            return False
    return True


def polynomial_by_hand(p, heights):
    pairs = []
    for (i, j), number in heights:
        k = max(0, -i, -j)
        if number % p:
            pairs.append(((i + k, j + k, k), number % p))
    return tuple(sorted(pairs))


def tie(p):
    return (((0, 0, 0), p - 1), ((1, 1, 1), 1))


def row_heights(row):
    return heights_of(show_of(2, row))


def around(ahead, row):
    return ahead + row + undone_row(2, ahead)


def round_trip(chance, most):
    """A closed row of at most so many steps, that is not always reduced."""
    while True:
        row = some_row(chance, 2, most - 2)
        end = walked(2, row)
        back = [-1 if end[0] > 0 else 1] * abs(end[0]) + [-2 if end[1] > 0 else 2] * abs(end[1])
        if chance.random() < 0.5:
            back.reverse()
        row += tuple(back)
        if len(row) <= most and (show_of(2, row) or chance.random() < 0.1):
            return row


def following(chance, told, most):
    """A row of moved told rows, done and undone."""
    row = ()
    for _ in range(chance.randint(0, 4)):
        part = chance.choice(told)
        part = around(some_row(chance, 2, 3), part if chance.random() < 0.5 else undone_row(2, part)) * chance.choice((1, 1, 2))
        if len(row) + len(part) <= most:
            row += part
    return row


def some_base(chance, p, members, size):
    base = []
    for _ in range(members):
        triples = sorted({tuple(chance.randint(0, size) for _ in range(3)) for _ in range(chance.randint(1, 4))})
        top = max(triples, key=level)
        base.append(tuple((triple, 1 if triple == top else chance.randint(1, p - 1)) for triple in triples))
    return tuple(base)


def some_polynomial(chance, p, most, size):
    triples = {tuple(chance.randint(0, size) for _ in range(3)) for _ in range(chance.randint(0, most))}
    return tuple((triple, chance.randint(1, p - 1)) for triple in sorted(triples))


class Polynomials(Case):

    def test_polynomials(self):
        self.tells((((0, 1, 1), 1),), polynomial_of, 3, (((-1, 0), 4), ((0, 0), 3)))
        self.tells((), polynomial_of, 3, ())
        self.tells((((0, 0, 0), 1), ((0, 1, 0), 2), ((1, 0, 0), 3), ((1, 0, 1), 4), ((5, 0, 2), 1)), polynomial_of, 5,
                   (((0, -1), 4), ((0, 0), 6), ((0, 1), -3), ((1, 0), 8), ((3, -2), 1)))
        # Numbers divisible by p are left out.
        self.tells((((0, 0, 0), 1),), polynomial_of, 2, (((0, 0), 7), ((0, 1), 2), ((1, 1), -4)))
        self.tells((((0, 4, 4), 1), ((2, 0, 4), 1)), polynomial_of, 2, (((-4, 0), 1), ((-2, -4), 1)))
        chance = Random(181)
        for p in (2, 3, 5):
            for _ in range(40):
                heights = some_sum(chance, 2, 40, 6, chance.choice((1, 5, 10 ** 30)))
                told = polynomial_of(p, heights)
                self.same(told, polynomial_by_hand(p, heights))
                self.assertTrue(all(min(triple) == 0 for triple, _ in told))

    def test_is_base(self):
        chance = Random(182)
        for p in (2, 3, 5):
            for base in ((), (tie(p),), ((((0, 0, 0), 1),),), (tie(p), tie(p)), some_base(chance, p, 30, 12)):
                self.tells(True, is_base, p, base)
            for _ in range(10):
                base = some_base(chance, p, 3, 2)
                self.tells(True, is_base, p, base)
                for thing in near_misses(chance, base, 100):
                    self.assertIs(is_base(p, thing), is_base_by_hand(p, thing), thing)
            for thing in NOTHING + (((),), (tie(p), ()), [tie(p)], (list(tie(p)),), (tie(p)[::-1],), tie(p), ((((0, 0, 0), 0),),), ((((0, 0, 0), p),),),
                                    ((((0, 0, 0), True),),), ((((0, 0, True), 1),),), ((((0, 0, -1), 1),),), ((((0, 0), 1),),), ((((0, 0, 0, 0), 1),),),
                                    ((((0, 0, 0), 1), ((0, 0, 0), 1)),), ((((0, 0, 0), 1, 1),),), ((([0, 0, 0], 1),),), (([(0, 0, 0), 1],),)):
                self.tells(is_base_by_hand(p, thing), is_base, p, thing)
                self.tells(is_base_by_hand(p, thing) and is_closed_by_hand(p, thing), is_closed_base, p, thing)
        # The head is the pair with the highest triple, not the last one.
        self.tells(True, is_base, 3, ((((0, 0, 2), 1), ((1, 0, 0), 2)),))
        self.tells(False, is_base, 3, ((((0, 0, 2), 2), ((1, 0, 0), 1)),))
        self.tells(True, is_base, 3, ((((0, 0, 1), 2), ((0, 1, 0), 2), ((1, 0, 0), 1)),))
        self.tells(False, is_base, 3, ((((0, 0, 1), 1), ((0, 1, 0), 1), ((1, 0, 0), 2)),))

    def test_rests(self):
        chance = Random(183)
        self.tells((((0, 0, 0), 1),), rest_by, 2, (((1, 1, 1), 1),), (tie(2),))
        self.tells((), rest_by, 5, (((3, 0, 0), 4),), ((((0, 0, 0), 1),),))
        # Of several members that could be subtracted it is the first one.
        one, other = (((0, 0, 0), 1), ((1, 0, 0), 1)), (((0, 1, 0), 1), ((1, 0, 0), 1))
        self.tells((((0, 0, 0), 2),), rest_by, 3, (((1, 0, 0), 1),), (one, other))
        self.tells((((0, 1, 0), 2),), rest_by, 3, (((1, 0, 0), 1),), (other, one))
        for p in (2, 3, 5):
            for _ in range(120):
                base = some_base(chance, p, chance.randint(0, 5), chance.choice((1, 2, 3)))
                polynomial = some_polynomial(chance, p, 8, chance.choice((2, 4)))
                self.same(rest_by(p, polynomial, base), rest_by_hand(p, polynomial, base))
                self.same(rest_by(p, polynomial, base[::-1]), rest_by_hand(p, polynomial, base[::-1]))
                self.same(rest_by(p, polynomial, ()), polynomial)
            self.told(rest_by, p, some_polynomial(chance, p, 8, 3), some_base(chance, p, 3, 2))
            # As much as the limits let there be.
            base = tuple(tuple((triple, 1 if triple == max(line, key=level) else p - 1) for triple in sorted(line))
                         for line in [{tuple(chance.randint(0, 12) for _ in range(3)) for _ in range(40)} for _ in range(30)])
            self.assertTrue(is_base(p, base))
            polynomial = some_polynomial(chance, p, 40, 12)
            self.same(rest_by(p, polynomial, base), rest_by_hand(p, polynomial, base))
            low = some_base(chance, p, 30, 3)
            self.same(rest_by(p, polynomial, low), rest_by_hand(p, polynomial, low))
            self.assertIs(is_closed_base(p, base), False)

    def test_closed_bases(self):
        chance = Random(184)
        found = {True: 0, False: 0}
        for p in (2, 3, 5):
            self.tells(True, is_closed_base, p, ())
            self.tells(True, is_closed_base, p, (tie(p),))
            for _ in range(150):
                base = some_base(chance, p, chance.randint(1, 3), chance.choice((1, 2)))
                closed = is_closed_by_hand(p, base)
                found[closed] += 1
                for order in (base, base[::-1]):
                    self.assertIs(is_closed_base(p, order), closed)
            # Single pairs are always closed.
            powers = tuple((((tuple(chance.randint(0, 12) for _ in range(3))), 1),) for _ in range(30))
            self.tells(True, is_closed_base, p, powers)
            # Heads that are apart are no reason to be closed: here all other rests are zero, and so it is.
            self.tells(True, is_closed_base, p, ((((0, 0, 0), 1), ((3, 0, 0), 1)), (((0, 0, 1), 1), ((0, 2, 0), 1))))
            self.tells(False, is_closed_base, p, ((((0, 0, 0), 1), ((1, 1, 0), 1)), (((0, 0, 0), 1), ((1, 0, 1), 1))))
        self.assertGreater(min(found.values()), 100)

    def test_points(self):
        """The polynomials that are 0 at some points: closed bases of many members with many pairs."""
        chance = Random(185)
        for many in (10, 30, 60):
            base = vanishing(chance.sample(list(product(range(5), repeat=3)), many))
            self.assertIs(is_closed_base(5, base), True)
            self.assertIs(is_closed_base(5, base[::-1]), True)
            k = chance.randrange(len(base))
            low = min(base[k], key=lambda pair: level(pair[0]))
            wrong = tuple(pair for pair in base[k] if pair != low)
            self.assertIs(is_closed_base(5, base[:k] + (wrong,) + base[k + 1:]), wrong == () or is_closed_by_hand(5, base[:k] + (wrong,) + base[k + 1:]))

    def test_far_triples(self):
        """Bases that are not closed, with items that nobody could come to one by one."""
        for p in (2, 3, 5):
            far = (((0, 1, 0), 1), ((10 ** 39, 0, 0), 1))
            self.tells(False, is_closed_base, p, ((((0, 0, 0), p - 1), ((1, 0, 0), 1)), far))
            self.tells(False, follows_holds, p, (STRIP,), LOOP, ("barred", ((((0, 0, 0), p - 1), ((1, 0, 0), 1)), far)))

    def test_errors(self):
        good = (((0, 0), 1),)
        for thing in NO_FIGURES:
            for heights in (good, (), None):
                self.refuses(BadNumber(thing), polynomial_of, thing, heights)
            for base in ((), None, (tie(2),)):
                self.refuses(BadNumber(thing), is_base, thing, base)
                self.refuses(BadNumber(thing), is_closed_base, thing, base)
                self.refuses(BadNumber(thing), rest_by, thing, (), base)
                self.refuses(BadNumber(thing), rest_by, thing, None, base)
        for p in (2, 3, 5):
            for thing in no_sums(2):
                self.refuses(BadHeights(thing), polynomial_of, p, thing)
            for thing in NOTHING + ((((0, 0), 1),), (((0, 0, 0), 0),), (((0, 0, 0), p),), (((0, 0, 0), -1),), (((0, 0, 0), True),), (((0, 0, -1), 1),),
                                    (((0, 0, 1), 1), ((0, 0, 0), 1)), [((0, 0, 0), 1)], tie(p) + tie(p), tie(p)[::-1]):
                self.refuses(BadSum(thing), rest_by, p, thing, (tie(p),))
                self.refuses(BadSum(thing), rest_by, p, thing, None)
            chance = Random(186)
            base = some_base(chance, p, 2, 2)
            for thing in NOTHING + tuple(listed(base)) + (((),), tie(p), (tie(p), ()), (tuple((triple, 2) for triple, _ in tie(p)),) if p > 2 else ((),)):
                self.refuses(BadSum(thing), rest_by, p, tie(p), thing)
                self.refuses(BadSum(thing), rest_by, p, (), thing)


def vanishing(points):
    """The least base, by 5, of the polynomials that are 0 at some points: triples from the lowest one on."""
    lines, heads, base = [], [], []
    for triple in sorted(product(range(6), repeat=3), key=level):
        if any(is_over(triple, head) for head in heads):
            continue
        values = [x ** triple[0] * y ** triple[1] * z ** triple[2] % 5 for x, y, z in points]
        numbers = {triple: 1}
        for at, other, others in lines:
            if values[at]:
                many = values[at]
                values = [(a - many * b) % 5 for a, b in zip(values, other)]
                for place, number in others.items():
                    numbers[place] = (numbers.get(place, 0) - many * number) % 5
        if any(values):
            at = next(k for k, value in enumerate(values) if value)
            turn = pow(values[at], 3, 5)
            lines.append((at, [turn * value % 5 for value in values], {place: turn * number % 5 for place, number in numbers.items()}))
        else:
            heads.append(triple)
            base.append(tuple(sorted((place, number) for place, number in numbers.items() if number)))
    return tuple(base)


def sum_is_right(p, told, row, factors):
    if type(factors) is not tuple or len(factors) != len(told):
        return False
    for terms in factors:
        if type(terms) is not tuple or not all(type(pair) is tuple and len(pair) == 2 for pair in terms):
            return False
        rooms = [room for room, _ in terms]
        if not all(type(room) is tuple and len(room) == 2 and all(type(item) is int for item in room) for room in rooms):
            return False
        if rooms != sorted(set(rooms)) or not all(type(number) is int and 1 <= number < p for _, number in terms):
            return False
    return by(p, added(*[multiplied(terms, row_heights(part)) for terms, part in zip(factors, told)])) == by(p, row_heights(row))


def base_bars(p, told, row, base):
    if not is_base_by_hand(p, base) or max([0] + [max(triple) for member in base for triple, _ in member]) > 40 or not is_closed_by_hand(p, base):
        return False
    if rest_by_hand(p, tie(p), base) or any(rest_by_hand(p, polynomial_by_hand(p, row_heights(part)), base) for part in told):
        return False
    return rest_by_hand(p, polynomial_by_hand(p, row_heights(row)), base) != ()


def is_right(p, told, row, thing):
    if type(thing) is not tuple or len(thing) != 2:
        return False
    if thing[0] == "sum":
        return sum_is_right(p, told, row, thing[1])
    return thing[0] == "barred" and base_bars(p, told, row, thing[1])


class Follows(Case):

    def check(self, p, told, row):
        certificate = judge_follows(p, told, row)
        self.assertIs(is_right(p, told, row, certificate), True, (p, told, row, certificate))
        self.assertIs(follows_holds(p, told, row, certificate), True)
        self.same(judge_follows(p, told, row), certificate)
        self.assertIs(does_follow(p, told, row), certificate[0] == "sum")
        return certificate

    def test_following(self):
        """Moved, undone and repeated told rows follow."""
        chance = Random(187)
        for p in (2, 3, 5):
            for _ in range(80):
                told = tuple(round_trip(chance, 12) for _ in range(chance.randint(1, 2)))
                self.assertEqual(self.check(p, told, following(chance, told, 24))[0], "sum")
                self.assertEqual(self.check(p, told, chance.choice(told) * p)[0], "sum")
                self.assertEqual(self.check(p, told, ())[0], "sum")
                self.assertEqual(self.check(p, told, round_trip(chance, 4) * p)[0], "sum")

    def test_all_kinds(self):
        chance = Random(188)
        for p in (2, 3, 5):
            found = {"sum": 0, "barred": 0}
            for _ in range(120):
                told = tuple(round_trip(chance, chance.choice((6, 8, 12))) for _ in range(chance.randint(1, 2)))
                found[self.check(p, told, round_trip(chance, chance.choice((6, 12, 24))))[0]] += 1
            self.assertGreater(min(found.values()), 10)

    def test_one_told(self):
        """With one told row just the multiples follow: told by division."""
        for p in (2, 3, 5):
            for k in range(1, 6):
                strip = (1,) * k + (2,) + (-1,) * k + (-2,)
                for n in range(1, 11):
                    row = (1,) * n + (2,) + (-1,) * n + (-2,)
                    self.assertEqual(self.check(p, (strip,), row)[0], "sum" if n % k == 0 else "barred")
                    base = least_base(p, (strip,))
                    self.assertIs(follows_holds(p, (strip,), row, ("barred", base)), n % k != 0)
                    if n % k == 0:
                        factor = tuple(((j, 0), 1) for j in range(0, n, k))
                        self.tells(True, follows_holds, p, (strip,), row, ("sum", (factor,)))
                        self.tells(False, follows_holds, p, (strip,), row + strip, ("sum", (factor,)))
            # Rows that are alike to nothing, or show nothing by p.
            for told in (((),), (LOOP * p,) if p < 4 else ((1, -1),), ((1, -1), ())):
                self.assertEqual(self.check(p, told, LOOP)[0], "barred")
                self.assertEqual(self.check(p, told, LOOP * p)[0], "sum")
                self.tells((tie(p),), least_base, p, told)
                self.tells(None, many_rows, p, told)

    def test_two_told(self):
        """A strip of two and one of three: together they make one square, as their lengths have no common divisor."""
        three = (1, 1, 1, 2, -1, -1, -1, -2)
        for p in (2, 3, 5):
            self.assertEqual(self.check(p, (STRIP, three), LOOP)[0], "sum")
            self.tells(((((0, 0, 0), 1),),), least_base, p, (STRIP, three))
            self.tells(1, many_rows, p, (STRIP, three))
            four = (1,) * 4 + (2,) + (-1,) * 4 + (-2,)
            self.assertEqual(self.check(p, (STRIP, four), LOOP)[0], "barred")

    def test_orders_of_members(self):
        """Closed bases bar in whatever order their members stand, and with more members than they need."""
        chance = Random(189)
        tested = 0
        for _ in range(120):
            p = chance.choice((2, 3, 5))
            told = tuple(round_trip(chance, 10) for _ in range(chance.randint(1, 2)))
            row = round_trip(chance, 12)
            word, base = judge_follows(p, told, row)
            if word != "barred":
                continue
            tested += 1
            for _ in range(3):
                order = tuple(chance.sample(base, len(base)))
                self.assertIs(follows_holds(p, told, row, ("barred", order)), True)
                self.assertIs(follows_holds(p, told, row, ("barred", order + (order[0],))), True)
            for k in range(len(base)):
                thing = ("barred", base[:k] + base[k + 1:])
                self.assertIs(follows_holds(p, told, row, thing), is_right(p, told, row, thing))
            self.assertIs(follows_holds(p, told, row, ("barred", ((((0, 0, 0), 1),),))), False)
            self.assertIs(follows_holds(p, told, row, ("barred", ())), False)
            self.assertIs(follows_holds(p, told, row, ("sum", tuple(() for _ in told))), False)
        self.assertGreater(tested, 30)

    def test_other_factors(self):
        chance = Random(190)
        for _ in range(60):
            p = chance.choice((2, 3, 5))
            told = tuple(round_trip(chance, 8) for _ in range(2))
            row = following(chance, told, 24)
            factors = judge_follows(p, told, row)[1]
            # The product of the two heights, once with each of them taken away from the other.
            one, other = (row_heights(part) for part in told)
            more = (by(p, added(factors[0], other)), by(p, added(factors[1], tuple((room, -number) for room, number in one))))
            self.assertIs(follows_holds(p, told, row, ("sum", more)), True)
            self.assertIs(follows_holds(p, told, row, ("sum", factors[::-1])), sum_is_right(p, told, row, factors[::-1]))
            wrong = (added(factors[0], (((99, 99), 1),)), factors[1])
            self.assertIs(follows_holds(p, told, row, ("sum", wrong)), by(p, one) == ())
            # Numbers that are by p the same, or nothing, but are not from 1 to p - 1.
            big = (tuple((room, number + p) for room, number in factors[0]), factors[1])
            self.assertIs(follows_holds(p, told, row, ("sum", big)), big == factors)
            self.assertIs(follows_holds(p, told, row, ("sum", (added(factors[0], (((99, 99), p),)), factors[1]))), False)
            self.assertIs(follows_holds(p, told, row, ("sum", (factors[0], added(factors[1], (((99, 99), -1),))))), False)

    def test_any_certificate(self):
        chance = Random(191)
        cases = [(2, (STRIP,), LOOP), (2, (STRIP,), STRIP + around((1,), STRIP)), (3, (STRIP, LOOP + LOOP), (2,) + STRIP + (-2,)), (5, ((),), ()), (3, ((),), LOOP)]
        for p, told, row in cases:
            for thing in NOTHING + ("sum", ("sum",), ("barred",), ("sum", ()), ("sum", ((),)), ("sum", ((), ())), ("sum", ((), (), ())), ("sum", None), ("sum", [()]), ("barred", None),
                                    ("barred", ()), ("barred", (tie(p),)), ("barred", [tie(p)]), ("barred", ((),)), ("sum", ((((0, 0), 1),),)), ("sum", ((((0, 0), True),),)),
                                    ("sum", ((((0, 0), 1),),), ()), ({}, ()), ("sum", ((((0, 0), 0),),)), ("sum", ((((0, 0), p + 1),),)), ("sum", ((((0, 0), 1 - p),),))):
                self.assertIs(follows_holds(p, told, row, thing), is_right(p, told, row, thing), (p, told, row, thing))
            for word in (judge_follows(p, told, row), ("barred", least_base(p, told)), ("sum", ((((0, 0), 1), ((1, 0), 1)),))):
                for thing in near_misses(chance, word, 120):
                    self.assertIs(follows_holds(p, told, row, thing), is_right(p, told, row, thing), (p, told, row, thing))
        self.told(judge_follows, 2, (STRIP,), LOOP)
        self.told(does_follow, 3, (STRIP, LOOP), STRIP)
        self.tells(True, follows_holds, 2, (STRIP,), (1, 2, -1, -2, 1, 1, 1, 2, -1, -2, -1, -1), ("sum", ((((0, 0), 1), ((1, 0), 1)),)))

    def test_errors(self):
        wrong = NOTHING + ((3,), (0,), (-3,), (True,), [1], 1)
        for thing in NO_FIGURES:
            for told in ((LOOP,), (None,), ((1,),)):
                for row in (LOOP, None):
                    self.refuses(BadNumber(thing), does_follow, thing, told, row)
                    self.refuses(BadNumber(thing), judge_follows, thing, told, row)
                    self.refuses(BadNumber(thing), follows_holds, thing, told, row, None)
                self.refuses(BadNumber(thing), least_base, thing, told)
                self.refuses(BadNumber(thing), many_rows, thing, told)
        for p in (2, 3, 5):
            for thing in wrong:
                for told in ((thing,), (LOOP, thing), (thing, None), ((1,), thing)):
                    for function in (least_base, many_rows):
                        self.refuses(BadRow(thing), function, p, told)
                    for row in (LOOP, None):
                        self.refuses(BadRow(thing), does_follow, p, told, row)
                        self.refuses(BadRow(thing), judge_follows, p, told, row)
                        self.refuses(BadRow(thing), follows_holds, p, told, row, thing)
                for told in ((LOOP,), ((1,),), (LOOP, (2,))):
                    self.refuses(BadRow(thing), does_follow, p, told, thing)
                    self.refuses(BadRow(thing), judge_follows, p, told, thing)
                    self.refuses(BadRow(thing), follows_holds, p, told, thing, ("sum", ((),)))
            for open_row in ((1,), (1, 2, -1), (2, 2, 1)):
                for told in ((open_row,), (open_row, LOOP), (LOOP, open_row), (open_row, (2,))):
                    for function in (least_base, many_rows):
                        self.refuses(NotClosed(open_row), function, p, told)
                    for row in (LOOP, (-1,)):
                        self.refuses(NotClosed(open_row), does_follow, p, told, row)
                        self.refuses(NotClosed(open_row), judge_follows, p, told, row)
                        self.refuses(NotClosed(open_row), follows_holds, p, told, row, ("sum", ((),)))
                self.refuses(NotClosed(open_row), judge_follows, p, (LOOP, ()), open_row)
                self.refuses(NotClosed(open_row), does_follow, p, (LOOP,), open_row)
                self.refuses(NotClosed(open_row), follows_holds, p, (LOOP,), open_row, None)


class LeastBases(Case):

    sizes = []

    def check(self, p, told):
        """A least base by its own definition."""
        base = least_base(p, told)
        self.same(least_base(p, told), base)
        self.assertTrue(is_base_by_hand(p, base))
        self.assertTrue(is_closed_by_hand(p, base))
        self.assertIs(is_closed_base(p, base), True)
        heads = [head_by_hand(member)[0] for member in base]
        self.assertEqual([level(head) for head in heads], sorted({level(head) for head in heads}))
        for k, member in enumerate(base):
            for j, head in enumerate(heads):
                self.assertFalse(j != k and any(is_over(triple, head) for triple, _ in member))
        for polynomial in [tie(p)] + [polynomial_by_hand(p, row_heights(part)) for part in told]:
            self.assertEqual(rest_by_hand(p, polynomial, base), ())
            self.same(rest_by(p, polynomial, base), ())
        # Triples that are over no head: endlessly many if some have a great item.
        free = [triple for triple in product(range(16), repeat=3) if not any(is_over(triple, head) for head in heads)]
        if any(15 in triple for triple in free):
            self.assertIsNone(many_rows(p, told))
        else:
            self.same(many_rows(p, told), p ** len(free))
            self.sizes.append(tuple(1 + max([-1] + [triple[k] for triple in free]) for k in range(3)))
        return base

    def test_members_follow(self):
        """Each member is a sum of multiples: a row with its heights follows, with factors."""
        chance = Random(192)
        for _ in range(60):
            p = chance.choice((2, 3, 5))
            told = tuple(round_trip(chance, 12) for _ in range(chance.randint(1, 2)))
            for member in self.check(p, told):
                heights = added(*[[((a - c, b - c), number)] for (a, b, c), number in member])
                row = row_for(2, show_of_heights(heights))
                certificate = judge_follows(p, told, row)
                self.assertEqual(certificate[0], "sum")
                self.assertTrue(sum_is_right(p, told, row, certificate[1]))

    def test_same_for_all_ways_to_tell(self):
        """Moved, undone or exchanged told rows have the same least base."""
        chance = Random(193)
        for _ in range(60):
            p = chance.choice((2, 3, 5))
            told = tuple(round_trip(chance, 8) for _ in range(2))
            base = self.check(p, told)
            for other in (told[::-1], tuple(around((chance.choice((1, -1, 2, -2)),), part) for part in told), tuple(undone_row(2, part) for part in told)):
                self.same(least_base(p, other), base)
                self.same(many_rows(p, other), many_rows(p, told))

    def test_told(self):
        self.tells(((((0, 0, 0), 1), ((1, 0, 0), 1)), (((0, 0, 0), 1), ((0, 1, 1), 1))), least_base, 2, (STRIP,))
        self.tells(((((0, 0, 0), 1),),), least_base, 5, (LOOP,))
        self.tells(((((0, 0, 0), 1),),), least_base, 3, (LOOP, STRIP))
        self.tells(((((0, 0, 0), 1), ((1, 0, 0), 1)), (((0, 0, 0), 1), ((0, 1, 1), 1))), least_base, 3, (STRIP,))

    def test_many_rows(self):
        self.tells(1, many_rows, 5, (LOOP,))
        self.tells(None, many_rows, 2, (STRIP,))
        for p in (2, 3, 5):
            for a in range(1, 6):
                for b in range(1, 6):
                    across, along = (1,) * a + (2,) + (-1,) * a + (-2,), (1,) + (2,) * b + (-1,) + (-2,) * b
                    self.assertEqual(many_rows(p, (across, along)), p ** ((a - 1) * (b - 1)))
                    self.check(p, (across, along))

    def test_counted(self):
        """Where the number is small, it is that of unlike rows among all small ones."""
        chance = Random(194)
        tested = 0
        for _ in range(200):
            p = chance.choice((2, 2, 3))
            told = tuple(round_trip(chance, 10) for _ in range(2))
            many = many_rows(p, told)
            base = self.check(p, told)
            if many is None or many > 9:
                continue
            tested += 1
            rests = {()}
            singles = [rest_by_hand(p, polynomial_by_hand(p, (((i, j), 1),)), base) for i in range(-3, 4) for j in range(-3, 4)]
            while True:
                more = {by(p, added(rest, single)) for rest in rests for single in singles} | rests
                if more == rests:
                    break
                rests = more
            self.assertEqual(len(rests), many)
        self.assertGreater(tested, 30)

    def test_sizes(self):
        """Least bases in which each of the letters can have the greatest and the least powers."""
        for p, told in ((5, ((-2, -2, 1, 1, -2, 1, 2, 2, 2, -1, -1, -1), (-2, 1, 2, 2, -2, 2, 1, -1, 1, -2, -1, -1))),
                        (2, ((2, -1, -2, -2, 2, -2, -1, -2, 2, 2, 1, 1), (-1, -2, 2, -2, -2, 1, 1, 2, 2, 1, -1, -1))),
                        (5, ((1, 1, 1, 1, -1, 1, -2, -1, -1, -1, -1, 2), (2, -1, -2, -2, 1, -1, 1, -2, 2, 2))),
                        (3, ((1, -1, -2, 2, -1, -2, -1, -1, 2, 1, 1, 1), (2, 2, 2, 2, 1, -2, -2, -2, -2, -1)))):
            self.check(p, told)
        for k, j in ((0, 1), (0, 2), (1, 0), (1, 2), (2, 0), (2, 1)):
            self.assertTrue(any(size[k] < size[j] for size in self.sizes), (k, j))

    def test_slow_ones(self):
        """Told rows whose least bases take long to find."""
        rows = [((1, 2, 2, 1, 2, 2, -1, -1, -2, -2, -2, -2), (-2, 1, 1, 1, 1, -2, -1, 2, 2, -1, -1, -1)),
                ((1, 2, 2, 2, 2, 1, -1, -1, -2, -2, -2, -2), (1, 1, 1, 1, -2, -1, -1, -1, -1, 2)),
                ((2, 2, -1, 2, 1, 1, -2, -2, -2, -1), (-2, 1, 1, 1, 1, 1, 2, -1, -1, -1, -1, -1)),
                ((1, 1, 1, 2, 2, 2, -1, -1, -1, -2, -2, -2), (1, 1, 2, 1, 2, 2, -1, -1, -2, -1, -2, -2)),
                ((1, 2, 1, 2, 1, 2, -1, -1, -1, -2, -2, -2), (2, 1, 2, -1, 2, -1, -2, -1, -2, 1, -2, 1))]
        for told in rows:
            for p in (2, 3, 5):
                self.check(p, told)
                self.assertTrue(is_right(p, told, LOOP, judge_follows(p, told, LOOP)))


if __name__ == "__main__":
    unittest.main()
