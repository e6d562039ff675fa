"""Part 3, [3.1] and [3.2]: term sums and quotients."""

import unittest
from random import Random

from stilewalks.errors import BadScript
from stilewalks.quotients import quotient_holds, quotient_of
from stilewalks.scripts import end_of, row_of
from stilewalks.shows import show_of
from tests.helping import NOTHING, Case, near_misses
from tests.test_scripts import FAR, no_scripts, some_script

PRIME = 2 ** 127 - 1
POINTS = ((3, 5, 7, 11), (1234567, 89, 10 ** 20 + 39, 17), (10 ** 30 + 57, 2, 9, 1000003))


def added(one, other):
    return tuple(a + b for a, b in zip(one, other))


def opposite(room):
    return tuple(-item for item in room)


def multiplied(one, other):
    """The product of two term sums, as dicts."""
    product = {}
    for room, number in one.items():
        for place, many in other.items():
            where = added(room, place)
            product[where] = product.get(where, 0) + number * many
    return {room: number for room, number in product.items() if number}


def less(move):
    return {(0,) * len(move): 1, move: -1}


def brackets_again(script):
    if isinstance(script, int):
        return 0
    return (script[0] == "again") + sum(brackets_again(part) for part in script[1:] if isinstance(part, (int, tuple)))


def power(room, point):
    """t^room at a point by PRIME."""
    value = 1
    for item, number in zip(room, point):
        value = value * pow(number, item % (PRIME - 1), PRIME) % PRIME
    return value


def value_of(r, script, i, point):
    """The side i of the show of a script at a point by PRIME, and t^end there, by its definition."""
    if isinstance(script, int):
        end = power(tuple((1 if script > 0 else -1) * (k == abs(script)) for k in range(1, r + 1)), point)
        if abs(script) != i:
            return 0, end
        return (1, end) if script > 0 else (-end % PRIME, end)
    word, parts = script[0], script[1:]
    if word == "again":
        n, (value, end) = parts[0], value_of(r, parts[1], i, point)
        if end == 1:
            return value * n % PRIME, 1
        last = pow(end, n, PRIME)
        return value * (1 - last) * pow(1 - end, -1, PRIME) % PRIME, last
    if word == "back":
        value, end = value_of(r, parts[0], i, point)
        back = pow(end, -1, PRIME)
        return -value * back % PRIME, back
    if word == "around":
        return value_of(r, ("row", parts[0], parts[1], ("back", parts[0])), i, point)
    total, at = 0, 1
    for part in parts:
        value, end = value_of(r, part, i, point)
        total, at = (total + at * value) % PRIME, at * end % PRIME
    return total, at


def sum_value(terms, point):
    return sum(number * power(room, point) for room, number in terms) % PRIME


def far_script(chance, r, depth, again=3):
    """A script with great numbers n, and at most so many of them within one another."""
    kind = chance.randint(0, 7) if depth else 0
    if kind < 2:
        return chance.choice((1, -1)) * chance.randint(1, r)
    if kind == 2:
        return ("back", far_script(chance, r, depth - 1, again))
    if kind == 3:
        return ("around", far_script(chance, r, depth - 1, again), far_script(chance, r, depth - 1, again))
    if kind == 4 or again == 0:
        return ("row",) + tuple(far_script(chance, r, depth - 1, again) for _ in range(chance.randint(1, 4)))
    n = chance.choice((0, 1, 2, 3, 7, 10 ** 9, FAR, FAR - 1, chance.randint(2, FAR)))
    return ("again", n, far_script(chance, r, depth - 1, again - (n > 1)))


class Quotients(Case):

    def check_form(self, r, script, quotient):
        """A quotient has the form of one, with few moves and without longer integers than are allowed."""
        self.assertIs(type(quotient), tuple)
        top, moves = quotient
        self.assertIs(type(top), tuple)
        self.assertIs(type(moves), tuple)
        self.assertEqual(list(top), sorted(top))
        self.assertEqual(len({room for room, _ in top}), len(top))
        self.assertNotIn(0, [number for _, number in top])
        self.assertNotIn((0,) * r, moves)
        self.assertLessEqual(len(moves), brackets_again(script))
        for room in list(moves) + [room for room, _ in top]:
            self.assertIs(type(room), tuple)
            self.assertEqual(len(room), r)
        for item in [item for room in moves for item in room] + [item for room, _ in top for item in room] + [
                number for _, number in top]:
            self.assertIs(type(item), int)
            self.assertLess(abs(item), 10 ** 100)

    def check(self, r, script):
        """All quotients of a script are right, as far as the values at some points tell."""
        for i in range(1, r + 1):
            quotient = quotient_of(r, script, i)
            self.same(quotient_of(r, script, i), quotient)
            self.check_form(r, script, quotient)
            for point in POINTS:
                product, _ = value_of(r, script, i, point)
                for move in quotient[1]:
                    product = product * (1 - power(move, point)) % PRIME
                self.assertEqual(sum_value(quotient[0], point), product, (r, script, i))
            if len(quotient[0]) <= 400:
                self.assertIs(quotient_holds(r, script, i, quotient), True)

    def test_short_scripts(self):
        chance = Random(31)
        for r in range(1, 5):
            for _ in range(60):
                script = some_script(chance, r, 4)
                if brackets_again(script) > 6:
                    continue
                self.check(r, script)
                row = row_of(r, ("row", script)) if len(repr(script)) < 300 else None
                if row is None:
                    continue
                for i in range(1, r + 1):
                    top, moves = quotient_of(r, script, i)
                    product = {room: number for room, way, number in show_of(r, row) if way == i}
                    for move in moves:
                        product = multiplied(product, less(move))
                    self.assertEqual(product, dict(top))

    def test_far_scripts(self):
        chance = Random(32)
        for r in range(1, 5):
            found = 0
            while found < 60:
                script = far_script(chance, r, 5)
                if brackets_again(script) <= 4 and len(repr(script)) < 600:
                    found += 1
                    self.check(r, script)

    def test_repeats_of_all_kinds(self):
        loop = ("row", 1, 2, -1, -2)
        for n in (0, 1, 2, 3, 10 ** 30):
            for block in (1, -1, -2, ("row",), ("row", 1, -1), loop, ("again", n, loop), ("row", 1, ("again", n, 2)),
                          ("again", n, ("row", ("again", n, 1), -1)), ("around", ("again", n, 1), 2),
                          ("around", 2, ("again", n, -1)), ("back", ("again", n, ("row", 1, -2)))):
                self.check(2, ("again", n, block))
        self.tells(((), ()), quotient_of, 1, ("again", FAR, ("row",)), 1)
        self.tells(((), ()), quotient_of, 2, ("again", 0, ("again", FAR, 1)), 1)
        self.tells(((((0, 0), FAR), ((0, 1), -FAR)), ()), quotient_of, 2, ("again", FAR, loop), 1)
        self.tells(((((0,), 1),), ()), quotient_of, 1, ("again", 1, 1), 1)

    def test_greatest_numbers(self):
        script = ("again", FAR, ("row", ("again", FAR, ("row", ("again", FAR, ("row", 1, 2, 2)), 2)), 1))
        self.check(2, script)
        self.check(2, ("row", ("back", script), ("again", FAR, ("row", -1, 2, 2, 2))))
        self.assertEqual(end_of(2, script), ((FAR ** 2 + 1) * FAR, (2 * FAR + 1) * FAR * FAR))
        # Three closed blocks within one another multiply the numbers.
        self.check(2, ("again", FAR, ("again", FAR, ("again", FAR, ("row", 1, 2, -1, -2)))))

    def test_forty_parts(self):
        chance = Random(33)
        for r in range(1, 5):
            steps = tuple(chance.choice((1, -1)) * chance.randint(1, r) for _ in range(26))
            script = ("row",) + steps
            for n in (FAR, 3, 10 ** 17):
                script = ("around", ("row", 1), ("again", n, ("row", r, script)))
            self.check(r, ("row", script, ("again", FAR - 5, -1)))

    def test_no_scripts(self):
        for r in range(1, 5):
            for thing in no_scripts(r):
                self.refuses(BadScript(thing), quotient_of, r, thing, 1)
                self.refuses(BadScript(thing), quotient_holds, r, thing, r, ((), ()))
                self.refuses(BadScript(thing), quotient_holds, r, thing, 1, thing)


class Certificates(Case):

    def test_right_ones(self):
        self.tells(True, quotient_holds, 1, ("row",), 1, ((), ()))
        self.tells(True, quotient_holds, 1, ("row",), 1, ((), ((1,), (-3,), (1,))))
        self.tells(True, quotient_holds, 2, 1, 2, ((), ()))
        self.tells(True, quotient_holds, 2, 1, 1, ((((0, 0), 1),), ()))
        self.tells(True, quotient_holds, 2, 1, 1, ((((0, 0), 1), ((5, -7), -1)), ((5, -7),)))
        self.tells(True, quotient_holds, 2, 1, 1, ((((-5, 7), -1), ((0, 0), 1)), ((-5, 7),)))
        self.tells(True, quotient_holds, 1, ("again", 6, 1), 1, (tuple(((k,), 1) for k in range(6)), ()))
        self.tells(True, quotient_holds, 1, ("again", 6, 1), 1, ((((0,), 1), ((1,), 1), ((6,), -1), ((7,), -1)), ((2,),)))
        self.tells(True, quotient_holds, 1, ("again", 6, 1), 1, ((((-1,), -1), ((5,), 1)), ((-1,),)))

    def test_wrong_ones(self):
        for thing in (((), ()), ((((0,), 1),), ((1,),)), ((((0,), 1), ((7,), -1)), ((1,),)), ((((0,), 1), ((6,), 1)), ((1,),)),
                      ((((0,), 2), ((6,), -2)), ((1,),)), ((((1,), 1), ((7,), -1)), ((1,),)),
                      ((((0,), 1), ((6,), -1)), ((2,),)), ((((0,), 1), ((6,), -1)), ((-1,),)),
                      ((((0,), 1), ((6,), -1)), ((1,), (1,))), ((((0,), 1), ((6,), -1)), ()),
                      ((((0,), 1), ((6,), -1)), ((0,),)), ((((0,), 1), ((6,), -1)), ((1,), (0,)))):
            self.tells(False, quotient_holds, 1, ("again", 6, 1), 1, thing)
        self.tells(False, quotient_holds, 2, 1, 1, ((), ()))
        self.tells(False, quotient_holds, 2, 1, 2, ((((0, 0), 1),), ()))
        # Nothing but zero, however many moves there are, stands for zero.
        self.tells(False, quotient_holds, 1, ("row",), 1, ((((0,), 1), ((1,), -1)), ((1,),)))
        self.tells(False, quotient_holds, 1, ("row",), 1, ((), ((1,), (0,))))

    def test_made_ones(self):
        """A move turned round, a move doubled, another order: right; a number or a room otherwise: wrong."""
        chance = Random(34)
        for r in range(1, 5):
            found = 0
            while found < 12:
                script = far_script(chance, r, 4)
                i = chance.randint(1, r)
                top, moves = quotient_of(r, script, i)
                if not 0 < len(moves) < 5 or len(top) > 150:
                    continue
                found += 1
                k = chance.randrange(len(moves))
                move = moves[k]
                turned = tuple(sorted((added(room, opposite(move)), -number) for room, number in top))
                doubled = tuple(sorted(multiplied(dict(top), less(move)).items()))
                longer = tuple(sorted(multiplied(dict(top), less((0,) * (r - 1) + (FAR,))).items()))
                rest = moves[:k] + moves[k + 1:]
                for thing in ((turned, rest + (opposite(move),)), (turned, (opposite(move),) + rest),
                              (doubled, moves + (move,)), (doubled, (move,) + moves), (top, rest + (move,)),
                              (top, (move,) + rest), (top, moves[::-1]), (longer, moves + ((0,) * (r - 1) + (FAR,),)),
                              (turned[::1], (opposite(move),) + rest[::-1])):
                    self.tells(True, quotient_holds, r, script, i, thing)
                for thing in ((top, moves + (move,)), (top, rest), (doubled, moves), (top, rest + (opposite(move),)),
                              (turned, moves), ((), moves), (top, ()), (doubled, moves + (opposite(move),))):
                    self.tells(top == (), quotient_holds, r, script, i, thing)
                if top:
                    self.refuse_changes(chance, r, script, i, (top, moves))

    def refuse_changes(self, chance, r, script, i, quotient):
        top, moves = quotient
        for k in (0, len(top) - 1, chance.randrange(len(top))):
            room, number = top[k]
            for many in (number + 1, -number, number * 2, 0, number == 1, str(number), None, (number,)):
                self.refuse_one(r, script, i, (top[:k] + ((room, many),) + top[k + 1:], moves), quotient)
            for j in range(r):
                place = room[:j] + (room[j] + 1,) + room[j + 1:]
                self.refuse_one(r, script, i, (tuple(sorted(top[:k] + ((place, number),) + top[k + 1:])), moves), quotient)
            self.refuse_one(r, script, i, (top[:k] + top[k + 1:], moves), quotient)
            self.refuse_one(r, script, i, (top[:k] + (top[k],) + top[k:], moves), quotient)
        self.refuse_one(r, script, i, (tuple(sorted(top + (((10 ** 40,) * r, 1),))), moves), quotient)
        for k, move in enumerate(moves):
            for other in (move[:-1] + (move[-1] + 1,), (0,) * r, move + (0,), move[1:], list(move), None, 1, (None,) * r,
                          (True,) * r, (0.5,) * r):
                self.refuse_one(r, script, i, (top, moves[:k] + (other,) + moves[k + 1:]), quotient)

    def refuse_one(self, r, script, i, thing, quotient):
        if repr(thing) != repr(quotient):
            self.assertIs(quotient_holds(r, script, i, thing), False, (r, script, i, thing))

    def test_any_value(self):
        chance = Random(35)
        script = ("row", ("again", 5, ("row", 1, 2)), ("again", FAR, -1), 2)
        for i in (1, 2):
            quotient = quotient_of(2, script, i)
            for thing in NOTHING:
                self.tells(False, quotient_holds, 2, script, i, thing)
            for thing in near_misses(chance, quotient, 2000):
                self.assertIs(quotient_holds(2, script, i, thing), self.is_right(2, script, i, thing), thing)
            top, moves = quotient
            for thing in (list(quotient), [top, moves], (list(top), moves), (top, list(moves)), (top, moves, ()), (top,),
                          (moves, top), (top[::-1], moves), (tuple(list(pair) for pair in top), moves),
                          (tuple((list(room), number) for room, number in top), moves), ("top", "moves"),
                          (top, moves + ((0, 0),)), ((True,), moves), (dict(top), moves), (top, dict.fromkeys(moves))):
                self.tells(False, quotient_holds, 2, script, i, thing)

    def test_bools(self):
        self.tells(True, quotient_holds, 1, 1, 1, ((((0,), 1), ((1,), -1)), ((1,),)))
        for thing in (((((0,), True), ((1,), -1)), ((1,),)), ((((False,), 1), ((1,), -1)), ((1,),)),
                      ((((0,), 1), ((True,), -1)), ((1,),)), ((((0,), 1), ((1,), -1)), ((True,),))):
            self.tells(False, quotient_holds, 1, 1, 1, thing)

    def test_many_moves(self):
        """Wrong values with very many moves are refused, too."""
        for moves in (((1,),) * 1000, tuple((k,) for k in range(1, 400)), tuple((10 ** 39 - k,) for k in range(300))):
            self.tells(False, quotient_holds, 1, ("again", FAR, 1), 1, ((((0,), 1), ((FAR,), -1)), moves))
            self.tells(False, quotient_holds, 1, 1, 1, ((((0,), 1),), moves))
            self.tells(True, quotient_holds, 1, ("row", 1, -1), 1, ((), moves))

    def is_right(self, r, script, i, thing):
        """Whether a value is a right quotient, by the form that the document tells and by values at points."""
        def whole(value):
            return type(value) is int

        def room(value):
            return type(value) is tuple and len(value) == r and all(whole(item) for item in value)

        if type(thing) is not tuple or len(thing) != 2 or type(thing[0]) is not tuple or type(thing[1]) is not tuple:
            return False
        for pair in thing[0]:
            if type(pair) is not tuple or len(pair) != 2 or not room(pair[0]) or not whole(pair[1]) or pair[1] == 0:
                return False
        rooms = [pair[0] for pair in thing[0]]
        if rooms != sorted(set(rooms)) or not all(room(move) and any(move) for move in thing[1]):
            return False
        for point in POINTS:
            product, _ = value_of(r, script, i, point)
            for move in thing[1]:
                product = product * (1 - power(move, point)) % PRIME
            if sum_value(thing[0], point) != product:
                return False
        return True


if __name__ == "__main__":
    unittest.main()
