"""Part 9: term sums, division, determinants, values."""

import unittest
from fractions import Fraction
from itertools import permutations, product
from random import Random

from stilewalks.errors import BadPoint, BadRoom, BadSum
from stilewalks.termsums import determinant, divided, is_sum, is_unit, sum_moved, sum_plus, sum_times, value_at
from tests.helping import NOTHING, Case, listed, near_misses

MOST = 10 ** 12 - 1
# The sizes to which items of rooms may come in divided, for each number of directions.
SIZES = {1: 30, 2: 30, 3: 8, 4: 4}


def some_sum(chance, r, most, size, great=5):
    rooms = {tuple(chance.randint(-size, size) for _ in range(r)) for _ in range(chance.randint(0, most))}
    return tuple((room, chance.choice((-1, 1)) * chance.randint(1, great)) for room in sorted(rooms))


def full_sum(chance, r, many, size, great):
    """A term sum with just so many pairs, or half as many as there are rooms."""
    rooms = set()
    while len(rooms) < min(many, (2 * size + 1) ** r // 2 + 1):
        rooms.add(tuple(chance.randint(-size, size) for _ in range(r)))
    return tuple((room, chance.choice((-1, 1)) * chance.randint(1, great)) for room in sorted(rooms))


def added(*sums):
    numbers = {}
    for terms in sums:
        for room, number in terms:
            numbers[room] = numbers.get(room, 0) + number
    return tuple(sorted((room, number) for room, number in numbers.items() if number))


def multiplied(one, other):
    return added(*[[(tuple(a + b for a, b in zip(room, place)), number * many) for place, many in other] for room, number in one])


def scaled(terms, number):
    return tuple((room, number * many) for room, many in terms if number)


def determinant_by_hand(r, table):
    total = ()
    for order in permutations(range(len(table))):
        part = (((0,) * r, 1),)
        for k, j in enumerate(order):
            part = multiplied(part, table[k][j])
        odd = sum(order[j] > order[k] for k in range(len(order)) for j in range(k)) % 2
        total = added(total, scaled(part, -1 if odd else 1))
    return total


def value_by_hand(terms, p, point):
    """The value as a fraction whose lower part is not divisible by p."""
    total = sum(number * Fraction(1) * product_of(Fraction(base) ** exponent for base, exponent in zip(point, room)) for room, number in terms)
    return next(k for k in range(p) if k * Fraction(total).denominator % p == Fraction(total).numerator % p)


def product_of(numbers):
    result = Fraction(1)
    for number in numbers:
        result *= number
    return result


def no_sums(r):
    zero, one = (0,) * r, (1,) + (0,) * (r - 1)
    wrong = list(NOTHING)
    wrong += [1, (1,), zero, [(zero, 1)], ([zero, 1],), (([0] * r, 1),), ((zero,),), ((zero, 1, 1),), (zero,), (zero, 1), ((1, zero),), ((None, 1),),
              (((), 1),), (("", 1),), ((zero + (0,), 1),), ((zero[1:] + (True,), 1),), ((zero[1:] + ("0",), 1),), ((zero[1:], 1),)]
    wrong += [((zero, number),) for number in (0, True, False, None, "1", (1,), [1])]
    wrong += [((zero, 1), (zero, 1)), ((zero, 1), (zero, 2)), ((zero, 2), (zero, 1)), ((one, 1), (zero, 1)), ((zero, 1), (one, 0)),
              ((zero, 1), (one, True)), ((zero, 1), None), ((zero, 1), ()), ((zero, 1), [one, 1]), ((one, 1), (zero, 2))]
    return wrong


class Sums(Case):

    def test_is_sum(self):
        chance = Random(141)
        for r in (1, 2, 3, 4):
            for terms in ((), (((0,) * r, 1),), (((-5,) * r, -MOST), ((5,) * r, MOST)), full_sum(chance, r, 200, 300, MOST)):
                self.tells(True, is_sum, r, terms)
                for q in (1, 2, 3, 4):
                    self.tells(q == r or terms == (), is_sum, q, terms)
            for thing in no_sums(r):
                self.tells(False, is_sum, r, thing)
                self.tells(False, is_unit, r, thing)
            terms = some_sum(chance, r, 6, 3)
            for thing in near_misses(chance, terms, 200):
                rooms = [pair[0] for pair in thing] if type(thing) is tuple and all(type(pair) is tuple and len(pair) == 2 for pair in thing) else None
                right = rooms is not None and all(type(room) is tuple and len(room) == r and all(type(item) is int for item in room) for room in rooms)
                right = right and all(type(pair[1]) is int and pair[1] != 0 for pair in thing) and rooms == sorted(set(rooms))
                self.assertIs(is_sum(r, thing), right, thing)

    def test_units(self):
        for r in (1, 2, 3, 4):
            for room in ((0,) * r, (-7,) * r, tuple(range(r)), (10 ** 30,) * r):
                for number in (1, -1, 2, -2, 7, MOST):
                    self.tells(number in (1, -1), is_unit, r, ((room, number),))
            self.tells(False, is_unit, r, ())
            self.tells(False, is_unit, r, (((0,) * r, 1), ((1,) * r, 1)))
            self.tells(False, is_unit, r, (((0,) * r, True),))
            self.tells(False, is_unit, r, [((0,) * r, 1)])

    def test_plus_and_times(self):
        chance = Random(142)
        self.tells((((0,), 1), ((1,), -2), ((2,), 1)), sum_times, 1, (((0,), -1), ((1,), 1)), (((0,), -1), ((1,), 1)))
        # Pairs become 0.
        self.tells((((0,), -1), ((4,), 1)), sum_times, 1, (((0,), -1), ((2,), 1)), (((0,), 1), ((2,), 1)))
        self.tells((), sum_plus, 1, (((0,), -1), ((2,), 1)), (((0,), 1), ((2,), -1)))
        self.tells((((0,), 5),), sum_plus, 1, (((0,), 2), ((2,), 1)), (((0,), 3), ((2,), -1)))
        for r in (1, 2, 3, 4):
            for size in (1, 3, 10 ** 11):
                for _ in range(25):
                    one, other, third = (some_sum(chance, r, 8, size, chance.choice((1, 3, MOST))) for _ in range(3))
                    self.same(sum_plus(r, one, other), added(one, other))
                    self.same(sum_times(r, one, other), multiplied(one, other))
                    self.same(sum_times(r, other, one), multiplied(one, other))
                    self.same(sum_plus(r, one, scaled(one, -1)), ())
                    self.same(sum_times(r, one, ()), ())
                    self.same(sum_plus(r, (), one), one)
                    self.same(sum_times(r, one, sum_plus(r, other, third)), sum_plus(r, sum_times(r, one, other), sum_times(r, one, third)))
            one, other = some_sum(chance, r, 8, 2), some_sum(chance, r, 8, 2)
            self.tells(added(one, other), sum_plus, r, one, other)
            self.tells(multiplied(one, other), sum_times, r, one, other)
            one, other = full_sum(chance, r, 200, 300, MOST), full_sum(chance, r, 200, 300, MOST)
            self.same(sum_times(r, one, other), multiplied(one, other))

    def test_moved(self):
        chance = Random(143)
        for r in (1, 2, 3, 4):
            for _ in range(10):
                terms, room = some_sum(chance, r, 8, 5), tuple(chance.choice((0, 1, -3, 10 ** 11)) for _ in range(r))
                self.tells(multiplied(terms, ((room, 1),)), sum_moved, r, terms, room)
            self.tells((), sum_moved, r, (), (5,) * r)

    def test_errors(self):
        for r in (1, 2, 3, 4):
            good, room = (((1,) * r, 2),), (0,) * r
            for thing in no_sums(r):
                for function in (sum_plus, sum_times, divided):
                    self.refuses(BadSum(thing), function, r, thing, good)
                    self.refuses(BadSum(thing), function, r, good, thing)
                    self.refuses(BadSum(thing), function, r, thing, None)
                    self.refuses(BadSum(thing), function, r, thing, ())
                self.refuses(BadSum(thing), sum_moved, r, thing, room)
                self.refuses(BadSum(thing), sum_moved, r, thing, None)
                self.refuses(BadSum(thing), value_at, r, thing, 7, (1,) * r)
                self.refuses(BadSum(thing), value_at, r, thing, 7, None)
            for thing in NOTHING + (room + (0,), room[1:], list(room), (True,) * r, ("0",) * r):
                if not (type(thing) is tuple and len(thing) == r and all(type(item) is int for item in thing)):
                    self.refuses(BadRoom(thing), sum_moved, r, good, thing)
                    self.refuses(BadRoom(thing), sum_moved, r, (), thing)


class Division(Case):

    def check(self, r, one, other):
        """What divided tells, checked where there is a quotient."""
        told = divided(r, one, other)
        if told is not None:
            self.assertTrue(is_sum(r, told))
            self.same(multiplied(told, other), one)
        return told

    def test_exact(self):
        chance = Random(144)
        for r in (1, 2, 3, 4):
            half = SIZES[r] // 2
            for most in (1, 2, 5, 12):
                for _ in range(25):
                    quotient = some_sum(chance, r, most, chance.randint(0, half), chance.choice((1, 5, 1000)))
                    other = some_sum(chance, r, most, chance.randint(0, half), chance.choice((1, 5, 1000))) or (((0,) * r, 1),)
                    self.same(self.check(r, multiplied(quotient, other), other), quotient)
            one = (((0,) * r, 6), ((1,) * r, 4))
            self.tells((((0,) * r, 3), ((1,) * r, 2)), divided, r, one, (((0,) * r, 2),))
            self.tells(None, divided, r, one, (((0,) * r, 4),))
            self.tells(None, divided, r, one, (((0,) * r, 12), ((1,) * r, 8)))
            self.tells((), divided, r, (), one)
            self.tells((((0,) * r, 1),), divided, r, one, one)

    def test_units(self):
        chance = Random(145)
        for r in (1, 2, 3, 4):
            for _ in range(10):
                terms, room = some_sum(chance, r, 10, SIZES[r] // 2, 9), tuple(chance.randint(-SIZES[r] // 2, SIZES[r] // 2) for _ in range(r))
                for number in (1, -1):
                    wanted = scaled(multiplied(terms, ((tuple(-item for item in room), 1),)), number)
                    self.tells(wanted, divided, r, terms, ((room, number),))

    def test_rest(self):
        """A sum that is divided, with one number otherwise or one pair more, has no quotient by a sum that is no unit."""
        chance = Random(146)
        for r in (1, 2, 3, 4):
            half = SIZES[r] // 2
            for _ in range(40):
                quotient, other = some_sum(chance, r, 8, half, 3), some_sum(chance, r, 5, half, 3)
                if len(other) < 2:
                    continue
                one = multiplied(quotient, other)
                room = tuple(chance.randint(-SIZES[r], SIZES[r]) for _ in range(r))
                # A single pair is no multiple of a sum of two or more.
                self.same(self.check(r, added(one, ((room, chance.choice((1, -1, 5))),)), other), None)
                self.same(self.check(r, ((room, 7),), other), None)

    def test_by_values(self):
        """Where values at points tell that there is no quotient, none is told."""
        chance = Random(147)
        found = {True: 0, False: 0}
        for r in (1, 2):
            for _ in range(200):
                one, other = some_sum(chance, r, 4, 2, 2), some_sum(chance, r, 3, 1, 2)
                if not other:
                    continue
                told = self.check(r, one, other)
                found[told is not None] += 1
                for p in (2, 3, 5, 7):
                    for point in product(range(1, p), repeat=r):
                        if value_by_hand(other, p, point) == 0 and value_by_hand(one, p, point) != 0:
                            self.assertIsNone(told)
        self.assertGreater(min(found.values()), 20)

    def test_one_direction(self):
        for k in range(1, 31):
            for n in range(1, 31):
                one, other = (((0,), -1), ((n,), 1)), (((0,), -1), ((k,), 1))
                wanted = tuple(((j,), 1) for j in range(0, n, k)) if n % k == 0 else None
                self.same(divided(1, one, other), wanted)
                self.same(divided(1, one, (((-k,), 1), ((0,), -1))), wanted and tuple(((j + k,), -1) for j in range(0, n, k)))
        self.tells(tuple(((j,), 1) for j in range(-30, 30)), divided, 1, (((-30,), -1), ((30,), 1)), (((0,), -1), ((1,), 1)))
        self.tells(None, divided, 1, (((0,), 1), ((1,), 1)), (((0,), 2), ((1,), 1)))
        self.tells(None, divided, 1, (((0,), 1),), (((0,), 1), ((1,), 1)))

    def test_great(self):
        """Sums as great as the limits let them be."""
        chance = Random(148)
        for r in (1, 2, 3, 4):
            size = SIZES[r]
            small = (((0,) * r, 1), ((0,) * (r - 1) + (1,), -1))
            for great in (1, MOST):
                one = full_sum(chance, r, 50 if r == 1 else 200, size, great)
                for other in (small, (((0,) * r, 2), ((1,) * r, MOST)), full_sum(chance, r, 10, 2, great), full_sum(chance, r, 40 if r == 1 else 200, size, great),
                              full_sum(chance, r, 8 if r < 3 else 30, size // 2, 1)):
                    self.check(r, one, other)
            # The corners of the greatest box, divided by one step.
            for step in range(r):
                one = (((-size,) * r, -1), (tuple(size if k == step else -size for k in range(r)), 1))
                told = self.check(r, one, (((0,) * r, -1), (tuple(int(k == step) for k in range(r)), 1)))
                self.assertEqual(len(told), 2 * size)
            quotient = full_sum(chance, r, 14, max(1, size // 2), 1000)
            other = full_sum(chance, r, 14, max(1, size // 2), 1000)
            self.same(self.check(r, multiplied(quotient, other), other), quotient)

    def test_many_pairs(self):
        """Divisors of many pairs and quotients of many pairs, with and without a rest."""
        chance = Random(149)
        for r, side in ((2, 10), (3, 4), (4, 2)):
            box = sorted(product(range(-side // 2, side - side // 2), repeat=r))
            other = tuple((room, chance.choice((1, -1, 2))) for room in box)
            quotient = tuple((room, chance.choice((1, -1, 3))) for room in box)
            one = multiplied(quotient, other)
            self.same(divided(r, one, other), quotient)
            self.same(divided(r, one + (((side + 20,) * r, 1),), other), None)

    def test_zero(self):
        for r in (1, 2, 3, 4):
            for one in ((), (((0,) * r, 1),), (((0,) * r, 1), ((1,) * r, 1))):
                self.refuses(BadSum(()), divided, r, one, ())


class Determinants(Case):

    def test_small(self):
        self.tells((((3,), 3),), determinant, 1, (((((1,), 1),), ()), ((((0,), 5),), (((2,), 3),))))
        chance = Random(150)
        for r in (1, 2, 3, 4):
            for k in (1, 2, 3, 4):
                for _ in range(8):
                    table = tuple(tuple(some_sum(chance, r, 3, 2) for _ in range(k)) for _ in range(k))
                    self.tells(determinant_by_hand(r, table), determinant, r, table)

    def test_rows_alike(self):
        chance = Random(151)
        for r in (1, 2, 3, 4):
            for k in (2, 3, 4):
                table = [tuple(some_sum(chance, r, 4, 3) for _ in range(k)) for _ in range(k)]
                told = determinant(r, tuple(table))
                alike = list(table)
                alike[-1] = alike[0]
                self.tells((), determinant, r, tuple(alike))
                turned = [table[1], table[0]] + table[2:]
                self.same(determinant(r, tuple(turned)), scaled(told, -1))
                across = tuple(tuple(row[j] for row in table) for j in range(k))
                self.same(determinant(r, across), told)
                twice = [tuple(scaled(terms, 2) for terms in table[0])] + table[1:]
                self.same(determinant(r, tuple(twice)), scaled(told, 2))
                none = [((),) * k] + table[1:]
                self.tells((), determinant, r, tuple(none))

    def test_zeros_below(self):
        chance = Random(152)
        for r in (1, 2, 3, 4):
            for k in (1, 2, 3, 4):
                table = tuple(tuple(some_sum(chance, r, 4, 3) if j >= i else () for j in range(k)) for i in range(k))
                wanted = (((0,) * r, 1),)
                for i in range(k):
                    wanted = multiplied(wanted, table[i][i])
                self.tells(wanted, determinant, r, table)
                # Ones from the lower left to the upper right.
                one = (((0,) * r, 1),)
                table = tuple(tuple(one if i + j == k - 1 else () for j in range(k)) for i in range(k))
                self.tells(scaled(one, -1 if k in (2, 3) else 1), determinant, r, table)

    def test_great(self):
        chance = Random(153)
        for r, k in ((1, 4), (2, 3), (3, 3), (4, 4)):
            table = tuple(tuple(full_sum(chance, r, 12, 6 if r < 3 else 2, MOST) for _ in range(k)) for _ in range(k))
            told = determinant(r, table)
            p, point = 9973, tuple(range(2, 2 + r))
            values = [[value_at(r, terms, p, point) for terms in row] for row in table]
            total = 0
            for order in permutations(range(k)):
                part = (-1) ** sum(order[j] > order[i] for i in range(k) for j in range(i))
                for i, j in enumerate(order):
                    part *= values[i][j]
                total += part
            self.assertEqual(value_at(r, told, p, point), total % p)
        far = tuple(tuple(full_sum(chance, 2, 12, MOST, MOST) for _ in range(2)) for _ in range(2))
        self.same(determinant(2, far), determinant_by_hand(2, far))

    def test_greatest(self):
        """Four rows of sums of twelve far pairs: half a million products, none of which fall together."""
        chance = Random(154)
        table = tuple(tuple(full_sum(chance, 3, 12, MOST, MOST) for _ in range(4)) for _ in range(4))
        self.assertGreater(len(determinant(3, table)), 400000)

    def test_errors(self):
        chance = Random(155)
        for r in (1, 2, 3, 4):
            one = (((0,) * r, 1),)
            wrong = list(NOTHING) + [(), ((),), ((one,), (one,)), ((one, one),), ((one, one), (one,)), ((one, one), (one, one, one)), [(one,)], ([one],),
                                     ((list(one),),), ((one, one), [one, one]), tuple((one,) * 5 for _ in range(5)), one, ((None,),), ((one,), ())]
            wrong += [((thing,),) for thing in no_sums(r)] + [((one, one), (one, thing)) for thing in no_sums(r)]
            for thing in wrong:
                # Empty tuples are sums, too: a row of one is a table.
                if thing == (((),),) and type(thing) is tuple:
                    continue
                self.refuses(BadSum(thing), determinant, r, thing)
            table = ((one, ()), (some_sum(chance, r, 3, 2), one))
            for thing in listed(table):
                self.refuses(BadSum(thing), determinant, r, thing)


class Values(Case):

    def test_values(self):
        self.tells(0, value_at, 1, (((0,), 1), ((1,), 1), ((2,), 1)), 7, (2,))
        self.tells(4, value_at, 1, (((-1,), 1),), 7, (2,))
        chance = Random(156)
        for r in (1, 2, 3, 4):
            for p in (2, 3, 5, 7, 31, 101):
                for _ in range(6):
                    terms, point = some_sum(chance, r, 6, 6, 50), tuple(chance.randint(1, p - 1) for _ in range(r))
                    self.tells(value_by_hand(terms, p, point), value_at, r, terms, p, point)
                self.tells(0, value_at, r, (), p, (1,) * r)

    def test_powers(self):
        for p in (2, 3, 5, 13, 9973):
            for base in {1, 2 % p or 1, p - 1, p // 2 or 1}:
                power = 1
                for exponent in range(0, 40):
                    self.assertEqual(value_at(1, (((exponent,), 1),), p, (base,)), power)
                    self.assertEqual(value_at(1, (((-exponent,), 1),), p, (base,)) * power % p, 1)
                    power = power * base % p
        for exponent in (MOST, -MOST, 10 ** 11 + 7):
            for base in (2, 9972, 17):
                self.tells(pow(base, exponent, 9973), value_at, 1, (((exponent,), 1),), 9973, (base,))
                self.tells(3 * pow(base, exponent, 9973) * pow(5, -exponent, 9973) % 9973, value_at, 2, (((exponent, -exponent), 3),), 9973, (base, 5))
        self.tells(MOST % 9973, value_at, 1, (((0,), MOST),), 9973, (9972,))
        self.tells(-MOST % 9973, value_at, 1, (((2,), -MOST),), 9973, (9972,))

    def test_sums_and_products(self):
        chance = Random(157)
        for r in (1, 2, 3, 4):
            for p in (2, 5, 9973):
                one, other = full_sum(chance, r, 200, 100, MOST), full_sum(chance, r, 200, 100, MOST)
                point = tuple(chance.randint(1, p - 1) for _ in range(r))
                first, second = value_at(r, one, p, point), value_at(r, other, p, point)
                self.assertEqual(value_at(r, sum_plus(r, one, other), p, point), (first + second) % p)
                self.assertEqual(value_at(r, sum_times(r, one, other), p, point), first * second % p)

    def test_bad_points(self):
        for r in (1, 2, 3, 4):
            terms = (((1,) * r, 2),)
            for p in (2, 7):
                good = (1,) * r
                for thing in NOTHING + (good + (1,), good[1:], list(good), (True,) * r, (0,) * r, good[1:] + (0,), good[1:] + (p,), good[1:] + (-1,),
                                        good[1:] + (10 ** 39,), good[1:] + ("1",), good[1:] + (None,), (p,) * r):
                    if not (type(thing) is tuple and len(thing) == r and all(type(item) is int and 1 <= item < p for item in thing)):
                        self.refuses(BadPoint(thing), value_at, r, terms, p, thing)
                        self.refuses(BadPoint(thing), value_at, r, (), p, thing)


if __name__ == "__main__":
    unittest.main()
