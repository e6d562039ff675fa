"""Part 6: rows that are led to one another by work around them."""

import unittest
from itertools import product
from random import Random

from stilewalks.built import row_for
from stilewalks.errors import BadRoom, BadRow, BadShow
from stilewalks.led import first_room, is_led, judge_led, leading_rooms, led_holds, rolled_along
from stilewalks.scripts import is_row, row_end, undone_row
from stilewalks.shows import is_show, moved, plus, rows_alike, show_of, times
from tests.helping import NOTHING, Case, near_misses
from tests.test_rows import some_row
from tests.test_shows import LONG, no_shows, some_show

LOOP = (1, 2, -1, -2)


def first_by(room, d):
    """The first room along d."""
    j = next(k for k, item in enumerate(d) if item)
    k = (room[j] - room[j] % abs(d[j])) // d[j]
    return tuple(a - k * b for a, b in zip(room, d))


def rolled_by_hand(show, d):
    if not any(d):
        return show
    numbers = {}
    for room, i, number in show:
        passage = (first_by(room, d), i)
        numbers[passage] = numbers.get(passage, 0) + number
    return tuple((room, i, numbers[room, i]) for room, i in sorted(numbers) if numbers[room, i])


def moved_by_hand(show, m, d):
    return rolled_by_hand(tuple((tuple(a + b for a, b in zip(room, m)), i, number) for room, i, number in show), d)


def tests_by_hand(r, one, other):
    """The rooms of all tests [6.4], each with all passages that are right for it; None if one is not called for."""
    d = row_end(r, one)
    first, second = rolled_by_hand(show_of(r, one), d), rolled_by_hand(show_of(r, other), d)
    if d != row_end(r, other) or not first and not second:
        return None
    found = []
    if first:
        start, i, number = first[0]
        for room, way, many in second:
            if (way, many) == (i, number):
                m = tuple(a - b for a, b in zip(room, start))
                m = first_by(m, d) if any(d) else m
                one_numbers = {(place, k): value for place, k, value in moved_by_hand(first, m, d)}
                numbers = {(place, k): value for place, k, value in second}
                unlike = [passage for passage in sorted(set(one_numbers) | set(numbers))
                          if one_numbers.get(passage, 0) != numbers.get(passage, 0)]
                found.append((m, unlike))
    return sorted(found)


def is_right(r, one, other, thing):
    """Whether a value is a certificate [6.4]."""
    if type(thing) is not tuple or len(thing) < 2:
        return False
    ends = row_end(r, one), row_end(r, other)
    if thing[0] == "row":
        return len(thing) == 2 and is_row(r, thing[1]) and rows_alike(r, thing[1] + one + undone_row(r, thing[1]), other)
    if thing[0] == "ends":
        return ends[0] != ends[1] and repr(thing[1:]) == repr(ends)
    if thing[0] != "stiles" or len(thing) != 2 or type(thing[1]) is not tuple:
        return False
    wanted = tests_by_hand(r, one, other)
    if wanted is None or len(thing[1]) != len(wanted):
        return False
    for test, (m, unlike) in zip(thing[1], wanted):
        if repr(test) not in [repr((m, passage)) for passage in unlike]:
            return False
    return True


def alike_row(chance, r, row):
    """A row that is alike another one, but written otherwise."""
    if chance.random() < 0.5 and r > 1:
        row = row_for(r, show_of(r, row))
    k, step = chance.randint(0, len(row)), chance.choice((1, -1)) * chance.randint(1, r)
    return row[:k] + (step, -step) + row[k:]


class Lines(Case):

    def test_first_rooms(self):
        self.tells((1, -5), first_room, 2, (5, 1), (2, 3))
        for k in range(-20, 21):
            for size in (1, 2, 3, 7, 100):
                self.tells((k % size,), first_room, 1, (k,), (size,))
                self.tells((k % size,), first_room, 1, (k,), (-size,))
                self.tells((k, 5, k % size), first_room, 3, (k, 5, k), (0, 0, size))
                self.tells((k, 5, k % size), first_room, 3, (k, 5, k), (0, 0, -size))
        chance = Random(91)
        for r in (1, 2, 3):
            for great in (3, 10, 10 ** 30, LONG):
                for _ in range(60):
                    d = tuple(chance.choice((0, 1, -1, chance.randint(-great, great))) for _ in range(r))
                    if not any(d):
                        continue
                    j = next(k for k, item in enumerate(d) if item)
                    room = tuple(chance.randint(-great, great) for _ in range(r))
                    first = first_room(r, room, d)
                    self.assertTrue(0 <= first[j] < abs(d[j]))
                    k = (room[j] - first[j]) // d[j]
                    self.same(tuple(a + k * b for a, b in zip(first, d)), room)
                    self.same(first_room(r, first, d), first)
                    for n in (1, -1, 5, 10 ** 9):
                        self.same(first_room(r, tuple(a + n * b for a, b in zip(room, d)), d), first)
                    self.same(first_room(r, room, tuple(-item for item in d)), first)
                    self.same(first, first_by(room, d))

    def test_rolled(self):
        chance = Random(92)
        self.tells((((0, 1), 1, 1),), rolled_along, 2, show_of(2, (2, 1, -2)), (1, 0))
        self.tells((((0,), 1, 7),), rolled_along, 1, show_of(1, (1,) * 7), (1,))
        self.tells((((0,), 1, 3), ((1,), 1, 2), ((2,), 1, 2)), rolled_along, 1, show_of(1, (1,) * 7), (-3,))
        self.tells((), rolled_along, 1, (), (5,))
        self.tells((), rolled_along, 1, (((0,), 1, LONG), ((LONG,), 1, -LONG)), (LONG,))
        self.tells((((0,), 1, LONG), ((1,), 1, -LONG)), rolled_along, 1, (((0,), 1, LONG), ((LONG,), 1, -LONG)), (1 - LONG,))
        for r in (1, 2, 3):
            for size in (1, 3, 10 ** 20, LONG):
                for _ in range(40):
                    show = some_show(chance, r, 60, min(size, 4))
                    show = times(r, chance.choice((1, 10 ** 40 - 1)), moved(r, show, tuple(chance.randint(-size, size) for _ in range(r))))
                    d = tuple(chance.choice((0, 1, -1, 2, -3, chance.randint(-size, size))) for _ in range(r))
                    if not any(d):
                        continue
                    told = rolled_along(r, show, d)
                    self.same(told, rolled_by_hand(show, d))
                    self.assertTrue(is_show(r, told))
                    self.same(rolled_along(r, told, d), told)
                    self.same(rolled_along(r, moved(r, show, d), d), told)
                    # Along a multiple more rooms are told apart.
                    more = tuple(3 * item for item in d)
                    self.same(rolled_along(r, rolled_along(r, show, more), d), told)
                    self.same(rolled_along(r, show, tuple(-item for item in d)), told)
                    self.same(rolled_along(r, plus(r, show, times(r, -1, moved(r, show, d))), d), ())

    def test_errors(self):
        for r in (1, 2, 3):
            zero, one = (0,) * r, (1,) * r
            for thing in no_shows(r)[::2]:
                self.refuses(BadShow(thing), rolled_along, r, thing, one)
                self.refuses(BadShow(thing), rolled_along, r, thing, zero)
                self.refuses(BadShow(thing), rolled_along, r, thing, thing)
            for thing in NOTHING + (zero, (1,) * (r + 1), (1,) * (r - 1), (True,) + zero[1:], zero[1:] + (None,), list(one), zero + (0,), (one,)):
                self.refuses(BadRoom(thing), rolled_along, r, (), thing)
                self.refuses(BadRoom(thing), rolled_along, r, show_of(r, (1, r)), thing)
                self.refuses(BadRoom(thing), first_room, r, one, thing)
                if thing != zero or type(thing[0]) is bool:
                    self.refuses(BadRoom(thing), first_room, r, thing, one)
                    self.refuses(BadRoom(thing), first_room, r, thing, zero)
                    self.refuses(BadRoom(thing), first_room, r, thing, [one])
            self.refuses(BadRoom(zero), first_room, r, zero, zero)
            self.tells(zero, first_room, r, zero, one)


class Led(Case):

    def check(self, r, one, other, room=None):
        """All that is told of two rows; room, if it is told, is the end of a row that leads one to other."""
        d, certificate = row_end(r, one), judge_led(r, one, other)
        self.assertIs(is_right(r, one, other, certificate), True, (r, one, other, certificate))
        self.assertIs(led_holds(r, one, other, certificate), True)
        self.same(judge_led(r, one, other), certificate)
        led = certificate[0] == "row"
        self.assertIs(is_led(r, one, other), led)
        rooms = leading_rooms(r, one, other)
        if not show_of(r, one) and not show_of(r, other):
            self.assertIsNone(rooms)
            self.assertTrue(led)
            return certificate
        self.assertIs(type(rooms), tuple)
        self.assertEqual(rooms != (), led)
        self.assertEqual(list(rooms), sorted(set(rooms)))
        if d == row_end(r, other):
            first, second = rolled_by_hand(show_of(r, one), d), rolled_by_hand(show_of(r, other), d)
            for m in rooms:
                self.assertEqual(moved_by_hand(first, m, d), second)
                self.same(first_by(m, d) if any(d) else m, m)
            near = {first_by(m, d) if any(d) else m for m in product(range(-4, 5), repeat=r)} if r < 3 else set()
            for m in near - set(rooms):
                self.assertNotEqual(moved_by_hand(first, m, d), second)
        if room is not None:
            self.assertIn(first_by(room, d) if any(d) else room, rooms)
        self.assertIs(led_holds(r, one, other, ("ends", d, row_end(r, other))), d != row_end(r, other))
        if led:
            self.assertIs(led_holds(r, one, other, ("row", certificate[1] + (1, -1))), True)
            self.assertIs(led_holds(r, one, other, ("row", certificate[1] + one)), True)
            self.assertIs(led_holds(r, one, other, ("stiles", ())), False)
        return certificate

    def test_led_rows(self):
        chance = Random(93)
        for r in (1, 2, 3):
            for most in (4, 10, 40):
                for _ in range(30):
                    one, row = some_row(chance, r, most), some_row(chance, r, chance.choice((2, 6, 12)))
                    other = row + one + undone_row(r, row)
                    if chance.random() < 0.7:
                        other = alike_row(chance, r, other)
                    certificate = self.check(r, one, other, row_end(r, row))
                    self.assertEqual(certificate[0], "row")
                    self.assertEqual(self.check(r, other, one)[0], "row")
                    self.assertIs(led_holds(r, one, other, ("row", row)), True)
                    self.same(led_holds(r, one, other, ("row", row + (1,))), is_right(r, one, other, ("row", row + (1,))))

    def test_rows_of_forty_steps(self):
        chance = Random(94)
        for r in (1, 2, 3):
            for _ in range(15):
                one = tuple(chance.choice((1, 1, -1)) * chance.randint(1, r) for _ in range(chance.choice((20, 24))))
                row = some_row(chance, r, 8)
                other = (row + one + undone_row(r, row))[:40]
                self.assertEqual(self.check(r, one, row + one + undone_row(r, row))[0], "row")
                self.check(r, one, other)
            self.check(r, (1,) * 40, (1,) * 40, (0,) * r)
            self.check(r, (-r,) * 40, (-r,) * 40)
            self.check(r, (1,) * 39 + (r,), (r,) + (1,) * 39)
            self.check(r, (1,) * 20 + (r,) * 20, (r,) * 20 + (1,) * 20)
            self.check(r, (1,) * 20 + (-r,) * 20, (-r,) * 20 + (1,) * 20)

    def test_repeated_rows(self):
        """A row done n times leads itself to itself by all its repeats."""
        chance = Random(95)
        for r in (1, 2, 3):
            for n in (2, 3, 5):
                for _ in range(12):
                    block = some_row(chance, r, 6)
                    c, row = row_end(r, block), some_row(chance, r, 5)
                    one, other = block * n, row + block * n + undone_row(r, row)
                    self.check(r, one, other, row_end(r, row))
                    if any(c):
                        d = row_end(r, one)
                        rooms = leading_rooms(r, one, one)
                        for k in range(n):
                            self.assertIn(first_by(tuple(k * item for item in c), d), rooms)
                        self.assertGreaterEqual(len(rooms), n)
        self.tells(((0,), (1,), (2,)), leading_rooms, 1, (1, 1, 1), (1, 1, 1))
        self.tells(((0, 0), (0, 1)), leading_rooms, 2, (2, 2), (2, 2))
        self.tells(((0, 0), (1, 1)), leading_rooms, 2, (1, 2, 1, 2), (1, 2, 1, 2))

    def test_closed_rows(self):
        chance = Random(96)
        self.tells(((0, 0),), leading_rooms, 2, LOOP, LOOP)
        self.tells(((1, 0),), leading_rooms, 2, LOOP, (1,) + LOOP + (-1,))
        self.tells(((-3, 4),), leading_rooms, 2, LOOP, (2,) * 4 + (-1,) * 3 + LOOP + (1,) * 3 + (-2,) * 4)
        # Walked from another of its rooms, a closed row is led there, too.
        self.tells(((-1, 0),), leading_rooms, 2, LOOP, (2, -1, -2, 1))
        self.tells((), leading_rooms, 2, LOOP, (2, 1, -2, -1))
        self.tells((), leading_rooms, 2, LOOP, ())
        self.tells((), leading_rooms, 2, (), LOOP)
        self.tells((), leading_rooms, 2, LOOP, LOOP * 2)
        self.tells(True, led_holds, 2, (), LOOP, ("stiles", ()))
        self.tells(True, led_holds, 2, LOOP, (), ("stiles", ()))
        self.tells(True, led_holds, 2, LOOP, LOOP * 2, ("stiles", ()))
        self.tells(False, led_holds, 2, (), (), ("stiles", ()))
        self.tells(False, led_holds, 2, (), (1, -1), ("stiles", ()))
        self.tells(False, led_holds, 2, (1,), (2,), ("stiles", ()))
        for r in (2, 3):
            for _ in range(40):
                one = some_row(chance, r, 14)
                one += undone_row(r, one)[::-1]
                self.check(r, one, chance.choice((one[3:] + one[:3], undone_row(r, one), one * 2, (), LOOP, one[::-1])))
                self.check(r, one, one[5:] + one[:5], tuple(-item for item in row_end(r, one[:5])))

    def test_alike_to_nothing(self):
        for r in (1, 2, 3):
            for one, other in (((), ()), ((1, -1), ()), ((), (r, -r)), ((1, r, -r, -1), (-1, 1))):
                self.tells(None, leading_rooms, r, one, other)
                self.tells(True, is_led, r, one, other)
                self.assertEqual(self.told(judge_led, r, one, other)[0], "row")
                for row in ((), (1,), (r, r, -1), (1,) * 3000):
                    self.tells(True, led_holds, r, one, other, ("row", row))
                for thing in (("stiles", ()), ("ends", (0,) * r, (0,) * r), ("row",), ("row", (), ()), ("row", [])):
                    self.tells(False, led_holds, r, one, other, thing)
        nothing = LOOP + (-1, 2, 1, -2) + (2, 1, -2, -1) + (2, -1, -2, 1)
        self.assertEqual(show_of(2, nothing), ())
        self.tells(None, leading_rooms, 2, nothing, ())
        self.tells((), leading_rooms, 2, nothing, LOOP)

    def test_unlike_ends(self):
        chance = Random(97)
        for r in (1, 2, 3):
            for _ in range(30):
                one, other = some_row(chance, r, 12), some_row(chance, r, 12)
                if row_end(r, one) == row_end(r, other):
                    continue
                ends = row_end(r, one), row_end(r, other)
                self.tells(("ends",) + ends, judge_led, r, one, other)
                self.tells((), leading_rooms, r, one, other)
                self.tells(False, is_led, r, one, other)
                for thing in (("ends",) + ends[::-1], ("ends", ends[0]), ("ends", ends), ("ends",) + ends + (0,), ("stiles", ()), ["ends", ends[0], ends[1]],
                              ("ends", list(ends[0]), ends[1]), ("row", ()), ("ends", ends[0], ends[0])):
                    self.tells(False, led_holds, r, one, other, thing)
        self.tells(False, led_holds, 1, (1,), (), ("ends", (True,), (0,)))
        self.tells(False, led_holds, 1, (1,), (), ("ends", (1,), (False,)))

    def test_barred_rows(self):
        """Rows with equal ends that no row leads to one another."""
        chance = Random(98)
        barred, longest = 0, 0
        for r in (2, 3):
            for most in (6, 16, 36):
                for _ in range(40):
                    one = some_row(chance, r, most)
                    other = list(one)
                    chance.shuffle(other)
                    certificate = self.check(r, one, tuple(other))
                    if certificate[0] == "stiles":
                        barred += 1
                        longest = max(longest, len(certificate[1]))
                        self.check_tests(chance, r, one, tuple(other))
                    self.check(r, one, LOOP + one)
        self.assertGreater(barred, 80)
        self.assertGreater(longest, 3)

    def check_tests(self, chance, r, one, other):
        """Certificates "stiles": all right passages are accepted, and nothing else."""
        wanted = tests_by_hand(r, one, other)
        d = row_end(r, one)
        tests = tuple((m, chance.choice(passages)) for m, passages in wanted)
        self.assertIs(led_holds(r, one, other, ("stiles", tests)), True)
        self.assertIs(led_holds(r, one, other, ("stiles", list(tests))), False)
        self.assertIs(led_holds(r, one, other, ("stiles", tests, ())), False)
        for k, (m, passage) in enumerate(tests):
            passages = wanted[k][1]
            for room, i in passages[:5] + [(room, i % r + 1) for room, i in passages[:5]] + [(m, 1)]:
                thing = ("stiles", tests[:k] + ((m, (room, i)),) + tests[k + 1:])
                self.assertIs(led_holds(r, one, other, thing), (room, i) in passages)
                if any(d):
                    beyond = tuple(a + b for a, b in zip(room, d))
                    self.assertIs(led_holds(r, one, other, ("stiles", tests[:k] + ((m, (beyond, i)),) + tests[k + 1:])), False)
            if any(d):
                beyond = tuple(a + b for a, b in zip(m, d))
                self.assertIs(led_holds(r, one, other, ("stiles", tests[:k] + ((beyond, passage),) + tests[k + 1:])), False)
            for part in ((), ((m, passage),) * 2, ((m, list(passage)),), ((m,) + passage,), ([m, passage],), ((m, passage, 0),), ((m, passage[0]),),
                         ((m, (passage[0], 0)),), ((m, (passage[0], r + 1)),), ((m, (passage[0], None)),), ((m, (list(passage[0]), passage[1])),),
                         ((list(m), passage),), ((m[1:], passage),), ((passage, m),), (None,), ((m, None),)):
                self.assertIs(led_holds(r, one, other, ("stiles", tests[:k] + part + tests[k + 1:])), False)
        if len(tests) > 1:
            self.assertIs(led_holds(r, one, other, ("stiles", tests[::-1])), False)
            self.assertIs(led_holds(r, one, other, ("stiles", tests[1:] + tests[:1])), False)
        self.assertIs(led_holds(r, one, other, ("stiles", tests + (((99,) * r, ((0,) * r, 1)),))), False)

    def test_any_certificate(self):
        chance = Random(99)
        pairs = (((1,), (2, 1, -2)), ((1, 1), (1, 2, 1, -2)), (LOOP, (1,) + LOOP + (-1,)), (LOOP, LOOP * 2), ((1,), (2,)), ((), ()), ((1, 2, 1, 2), (2, 1, 2, 1)),
                 ((1, 1, 2), (2, 1, 1)), ((), LOOP))
        for one, other in pairs:
            for thing in NOTHING + ("row", ("row",), ("stiles",), ("ends",), ("stiles", None), ("ends", None, None), ("row", None), ("stiles", [()]), ({}, ())):
                self.assertIs(led_holds(2, one, other, thing), is_right(2, one, other, thing), (one, other, thing))
            for word in (judge_led(2, one, other), ("stiles", (((0, 0), ((0, 0), 2)), ((1, 1), ((0, 0), 1)))), ("row", (2, 1)), ("ends", (1, 0), (0, 1))):
                for thing in near_misses(chance, word, 300):
                    self.assertIs(led_holds(2, one, other, thing), is_right(2, one, other, thing), (one, other, thing))

    def test_no_rows(self):
        for r in (1, 2, 3):
            for thing in NOTHING + ((r + 1,), (0,), (-r - 1,), (True,), [1], 1):
                for function, more in ((is_led, ()), (judge_led, ()), (leading_rooms, ()), (led_holds, (("row", ()),))):
                    self.refuses(BadRow(thing), function, r, thing, (), *more)
                    self.refuses(BadRow(thing), function, r, (1,), thing, *more)
                    self.refuses(BadRow(thing), function, r, thing, [], *more)


if __name__ == "__main__":
    unittest.main()
