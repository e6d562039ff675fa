"""Part 13: several walkers."""

import unittest
from itertools import product
from random import Random

from stilewalks.errors import BadRow, BadShow, NotClosed
from stilewalks.scripts import undone_row
from stilewalks.shows import plus, show_of, times
from stilewalks.walkers import can_be_shared, idle_numbers, judge_shares, shares_hold, together
from tests.helping import NOTHING, Case, near_misses
from tests.test_led import LOOP, alike_row
from tests.test_rows import some_row, walked
from tests.test_shows import no_shows

ROWS = ((1, 2, -1, -2), (1, 1, 2, -1, -1, -2))
NOT_SEEN = LOOP + (-1, 2, 1, -2) + (2, 1, -2, -1) + (2, -1, -2, 1)


def straight_back(r, row):
    end = walked(r, row)
    out = ()
    for k, item in enumerate(end):
        out += ((-k - 1 if item > 0 else k + 1),) * abs(item)
    return out


def round_trip(chance, r, most):
    row = some_row(chance, r, most // 2)
    return row + straight_back(r, row)


def made_by(r, numbers, rows):
    show = ()
    for number, row in zip(numbers, rows):
        show = plus(r, show, times(r, number, show_of(r, row)))
    return show


def weighed(show, weights):
    table = {(room, i): number for room, i, number in show}
    return sum(number * table.get(passage, 0) for passage, number in weights)


def is_right(r, rows, show, thing):
    if type(thing) is not tuple or len(thing) < 2:
        return False
    if thing[0] == "numbers":
        numbers = thing[1]
        if len(thing) != 2 or type(numbers) is not tuple or len(numbers) != len(rows) or not all(type(number) is int for number in numbers):
            return False
        return made_by(r, numbers, rows) == show
    if thing[0] != "weights" or len(thing) != 3 or type(thing[1]) is not tuple or type(thing[2]) is not int or thing[2] < 0 or thing[2] == 1:
        return False
    for pair in thing[1]:
        if type(pair) is not tuple or len(pair) != 2 or type(pair[0]) is not tuple or len(pair[0]) != 2 or type(pair[1]) is not int or pair[1] == 0:
            return False
        room, i = pair[0]
        if type(room) is not tuple or len(room) != r or not all(type(item) is int for item in room) or type(i) is not int or not 1 <= i <= r:
            return False
    passages = [pair[0] for pair in thing[1]]
    if passages != sorted(set(passages)):
        return False
    given = [weighed(show_of(r, row), thing[1]) for row in rows]
    wanted = weighed(show, thing[1])
    if thing[2] == 0:
        return not any(given) and wanted != 0
    return all(number % thing[2] == 0 for number in given) and wanted % thing[2] != 0


class Together(Case):

    def test_together(self):
        self.tells((((-1,), 1, -1), ((0,), 1, 2), ((1,), 1, 1)), together, 1, ((1,), (1, 1), (-1,)))
        self.tells((), together, 2, ((),))
        self.tells((), together, 2, (LOOP, undone_row(2, LOOP), (), NOT_SEEN))
        chance = Random(231)
        for r in (1, 2, 3):
            for many in (1, 2, 3, 4, 5):
                for _ in range(8):
                    rows = tuple(some_row(chance, r, 40) for _ in range(many))
                    wanted = ()
                    for row in rows:
                        wanted = plus(r, wanted, show_of(r, row))
                    self.tells(wanted, together, r, rows)
                    self.same(together(r, rows[::-1]), wanted)
                    # Whatever turns they take: the steps of all walkers, one by one in some order.
                    numbers, rooms, left = {}, [(0,) * r for _ in rows], [list(row) for row in rows]
                    while any(left):
                        k = chance.choice([k for k in range(many) if left[k]])
                        step = left[k].pop(0)
                        room = rooms[k]
                        rooms[k] = tuple(item + (step > 0) - (step < 0) if j == abs(step) - 1 else item for j, item in enumerate(room))
                        passage = (room, step) if step > 0 else (rooms[k], -step)
                        numbers[passage] = numbers.get(passage, 0) + (1 if step > 0 else -1)
                    self.same(tuple((room, i, numbers[room, i]) for room, i in sorted(numbers) if numbers[room, i]), wanted)

    def test_errors(self):
        for r in (1, 2, 3):
            for thing in NOTHING + ((r + 1,), (0,), (-r - 1,), (True,), [1], 1):
                for rows in ((thing,), (thing, (1,)), ((1,), thing), ((1,), (), (1,), (r,), thing), (thing, None), ((1,), thing, None)):
                    self.refuses(BadRow(thing), together, r, rows)


class Shares(Case):

    def check(self, r, rows, show):
        certificate = judge_shares(r, rows, show)
        self.assertIs(is_right(r, rows, show, certificate), True, (r, rows, show, certificate))
        self.assertIs(shares_hold(r, rows, show, certificate), True)
        self.same(judge_shares(r, rows, show), certificate)
        self.assertIs(can_be_shared(r, rows, show), certificate[0] == "numbers")
        if certificate[0] == "weights":
            # What is told can be passed again.
            self.assertTrue(all(abs(number) < 10 ** 30 for _, number in certificate[1]))
        return certificate

    def test_plain(self):
        square = show_of(2, (1, 1, 2, -1, -2, -1))
        self.tells(("numbers", (-1, 1)), judge_shares, 2, ROWS, square)
        self.tells(True, can_be_shared, 2, ROWS, square)
        self.tells(False, can_be_shared, 2, ROWS[1:], square)
        self.tells(True, shares_hold, 2, ROWS[1:], show_of(2, ROWS[0]), ("weights", ((((0, 0), 1), 1), (((1, 0), 1), -1)), 0))
        self.tells(None, idle_numbers, 2, ROWS)
        self.tells(("numbers", (0,)), judge_shares, 2, ((),), ())
        self.assertEqual(self.check(2, ((),), show_of(2, LOOP))[2], 0)
        self.assertEqual(self.check(2, (LOOP * 2,), show_of(2, LOOP))[2], 2)
        self.assertEqual(self.check(2, (LOOP * 4, LOOP * 6), show_of(2, LOOP * 2))[0], "numbers")
        self.assertEqual(self.check(2, (LOOP * 4, LOOP * 6), show_of(2, LOOP * 3))[2], 2)
        self.assertEqual(self.check(2, (LOOP * 6, LOOP * 10, (LOOP * 10)[20:] + LOOP * 5), show_of(2, LOOP))[0], "weights")
        self.assertEqual(self.check(2, (LOOP * 10, undone_row(2, LOOP) * 6, LOOP * 9), times(2, -10 ** 12 + 1, show_of(2, LOOP)))[0], "numbers")

    def test_made(self):
        """Numbers that make a show, also below 0, and great ones."""
        chance = Random(232)
        for r in (1, 2, 3):
            for many in (1, 2, 3, 4, 5):
                for great in (0, 1, 5, 10 ** 10):
                    for _ in range(6):
                        rows = tuple(round_trip(chance, r, chance.choice((8, 12))) for _ in range(many))
                        numbers = tuple(chance.randint(-great, great) for _ in range(many))
                        show = made_by(r, numbers, rows)
                        if len(show) > 60:
                            continue
                        self.assertEqual(self.check(r, rows, show)[0], "numbers")
                        self.assertIs(shares_hold(r, rows, show, ("numbers", numbers)), True)
                        wrong = numbers[:-1] + (numbers[-1] + 1,)
                        self.assertIs(shares_hold(r, rows, show, ("numbers", wrong)), show_of(r, rows[-1]) == ())

    def test_all_kinds(self):
        chance = Random(233)
        found = {"numbers": 0, 0: 0, 2: 0}
        for r in (2, 3):
            for many in (1, 2, 3, 4, 5):
                for _ in range(60):
                    parts = [round_trip(chance, r, chance.choice((4, 6, 8, 12))) for _ in range(chance.randint(1, 4))]
                    rows = []
                    for _ in range(many):
                        row = ()
                        for _ in range(chance.randint(1, 5)):
                            part = chance.choice(parts)
                            part = (part if chance.random() < 0.6 else undone_row(r, part)) * chance.choice((1, 2, 3))
                            if len(row) + len(part) <= 40:
                                row += part
                        rows.append(row)
                    show = made_by(r, [chance.randint(-3, 3) for _ in parts], parts)
                    if chance.random() < 0.2:
                        show = show_of(r, some_row(chance, r, 12))
                    if len(show) <= 60:
                        word = self.check(r, tuple(rows), show)
                        found[word[0] if word[0] == "numbers" else min(word[2], 2)] += 1
        self.assertGreater(min(found.values()), 40)

    def test_one_kind_only(self):
        """Where numbers make a show, no small weights are right, and the other way round."""
        chance = Random(234)
        passages = [((a, b), i) for a in (0, 1) for b in (0, 1) for i in (1, 2)]
        for _ in range(25):
            rows = tuple(LOOP * chance.randint(0, 4) + chance.choice(((), (1, 2, -1, -2), (2, 2, 1, -2, -2, -1))) for _ in range(2))
            show = chance.choice((show_of(2, LOOP * chance.randint(1, 4)), show_of(2, (2, 2, 1, -2, -2, -1))))
            word = self.check(2, rows, show)[0]
            for numbers in product(range(-4, 5), repeat=2):
                self.assertIs(shares_hold(2, rows, show, ("numbers", numbers)), made_by(2, numbers, rows) == show)
                if word == "weights":
                    self.assertIs(shares_hold(2, rows, show, ("numbers", numbers)), False)
            for _ in range(40):
                weights = tuple((passage, chance.choice((-2, -1, 1, 3))) for passage in sorted(chance.sample(passages, 2)))
                for m in (0, 2, 3, 4):
                    right = is_right(2, rows, show, ("weights", weights, m))
                    self.assertIs(shares_hold(2, rows, show, ("weights", weights, m)), right)
                    if word == "numbers":
                        self.assertIs(right, False)

    def test_great(self):
        """Five rows of 40 steps; shows of 60 triples with numbers of 12 digits."""
        chance = Random(235)
        for r in (1, 2, 3):
            for _ in range(15):
                rows = tuple(round_trip(chance, r, 40) for _ in range(5))
                self.check(r, rows, show_of(r, round_trip(chance, r, 40)))
                passages = sorted({(tuple(chance.randint(-3, 3) for _ in range(r)), chance.randint(1, r)) for _ in range(60)})
                show = tuple((room, i, chance.choice((-1, 1)) * chance.randint(1, 10 ** 12 - 1)) for room, i in passages)
                self.check(r, rows, show)
        # Many rows over a few squares: the weights need great m.
        squares = [LOOP, (1,) + LOOP + (-1,), (2,) + LOOP + (-2,), (1, 2) + LOOP + (-2, -1), (-1,) + LOOP + (1,)]
        most = 0
        for _ in range(60):
            rows = []
            for _ in range(5):
                row = ()
                while len(row) <= 30:
                    row += chance.choice(squares)
                rows.append(row if len(row) <= 40 else row[:0])
            show = made_by(2, [chance.choice((-1, 1)) * chance.randint(1, 10 ** 11) for _ in squares], squares)
            word = self.check(2, tuple(rows), show)
            if word[0] == "weights":
                most = max(most, word[2])
        self.assertGreater(most, 10)

    def test_many_weights(self):
        weights = tuple((((a, b), i), 10 ** 29 + a) for a in range(-9, 10) for b in range(-9, 10) for i in (1, 2))
        for thing in (("weights", weights, 0), ("weights", weights, 10 ** 29), ("weights", weights, 7)):
            for show in (show_of(2, LOOP), show_of(2, (1, 1))):
                self.assertIs(shares_hold(2, ROWS, show, thing), is_right(2, ROWS, show, thing))

    def test_any_certificate(self):
        chance = Random(236)
        cases = [(2, ROWS, show_of(2, (1, 1, 2, -1, -2, -1))), (2, ROWS[1:], show_of(2, LOOP)), (2, (LOOP * 2, LOOP * 4), show_of(2, LOOP)), (2, ((),), ()),
                 (1, ((), (1, -1)), show_of(1, (1,))), (2, ((), LOOP), show_of(2, LOOP * 2))]
        for r, rows, show in cases:
            for thing in NOTHING + ("numbers", ("numbers",), ("weights",), ("weights", ()), ("weights", (), 0), ("weights", (), 2), ("numbers", ()), ("numbers", (0, 0)),
                                    ("numbers", (False, True)), ("numbers", [0, 0]), ("numbers", (0,)), ("numbers", None), ("weights", None, 0),
                                    ("weights", ((((0, 0), 1), 1),), None), ("weights", ((((0, 0), 1), 1),), 2), ("weights", ((((0, 0), 1), 1),), 1),
                                    ("weights", ((((0, 0), 1), 1),), -2), ("weights", ((((0, 0), 1), 1),), True), ("weights", ((((0, 0), 1), 1),), False),
                                    ("weights", ((((0, 0), 1), 0),), 2), ("weights", [(((0, 0), 1), 1)], 2), ("weights", (([(0, 0), 1], 1),), 2),
                                    ("weights", ((((0, 0), 3), 1),), 2), ("weights", ((((0, 0), 1), 1), (((0, 0), 1), 1)), 3), ({}, ())):
                self.assertIs(shares_hold(r, rows, show, thing), is_right(r, rows, show, thing), (rows, show, thing))
            words = [judge_shares(r, rows, show), ("weights", ((((0, 0), 1), 1), (((1, 0), 1), -1)), 0), ("weights", ((((0, 0), 1), 1),), 2), ("numbers", (-1, 1))]
            for word in words:
                for thing in near_misses(chance, word, 150):
                    self.assertIs(shares_hold(r, rows, show, thing), is_right(r, rows, show, thing), (rows, show, thing))
        self.tells(False, shares_hold, 2, (LOOP * 2,), show_of(2, LOOP), ("weights", ((((0, 0), 1), 1),), 4))
        self.tells(True, shares_hold, 2, (LOOP * 2,), show_of(2, LOOP), ("weights", ((((0, 0), 1), 1),), 2))
        self.tells(True, shares_hold, 2, (LOOP * 2,), show_of(2, LOOP), ("weights", ((((0, 0), 1), 1), (((5, 5), 1), 1)), 2))
        self.tells(False, shares_hold, 2, (LOOP * 2,), show_of(2, LOOP), ("weights", ((((0, 0), 1), 1), (((5, 5), 1), 0)), 2))
        self.tells(False, shares_hold, 2, (LOOP * 2,), show_of(2, LOOP), ("weights", ((((0, 0), 1), 1), (((5, 5), 3), 1)), 2))

    def test_errors(self):
        for r in (1, 2, 3):
            closed = (1, -1)
            for thing in NOTHING + ((r + 1,), (0,), (-r - 1,), (True,), [1], 1):
                for rows in ((thing,), (thing, closed), ((1,), thing), (closed, closed, (r,), thing), (thing, None)):
                    self.refuses(BadRow(thing), idle_numbers, r, rows)
                    for show in ((), None, thing):
                        self.refuses(BadRow(thing), judge_shares, r, rows, show)
                        self.refuses(BadRow(thing), can_be_shared, r, rows, show)
                        self.refuses(BadRow(thing), shares_hold, r, rows, show, ("numbers", ()))
            for row in ((1,), (r, r, -1 if r > 1 else 1), (-r,) * 40):
                for rows in ((row,), (row, closed), (closed, row), (row, (1, 1)), ((), closed, row, (-1,))):
                    self.refuses(NotClosed(row), idle_numbers, r, rows)
                    for show in ((), None):
                        self.refuses(NotClosed(row), judge_shares, r, rows, show)
                        self.refuses(NotClosed(row), can_be_shared, r, rows, show)
                        self.refuses(NotClosed(row), shares_hold, r, rows, show, None)
            for thing in no_shows(r):
                self.refuses(BadShow(thing), judge_shares, r, (closed,), thing)
                self.refuses(BadShow(thing), can_be_shared, r, (closed, ()), thing)
                self.refuses(BadShow(thing), shares_hold, r, (closed,), thing, ("numbers", (0,)))


class Idle(Case):

    def check(self, r, rows):
        told = idle_numbers(r, rows)
        self.same(idle_numbers(r, rows), told)
        if told is not None:
            self.assertEqual([type(number) for number in told], [int] * len(rows))
            self.assertTrue(any(told))
            self.assertEqual(made_by(r, told, rows), ())
            self.assertIs(shares_hold(r, rows, (), ("numbers", told)), True)
        return told

    def test_idle(self):
        self.tells(None, idle_numbers, 2, ROWS)
        self.tells(None, idle_numbers, 2, (LOOP,))
        for rows in (((),), (NOT_SEEN,), (LOOP, LOOP), (LOOP, undone_row(2, LOOP)), (LOOP * 2, LOOP * 3), (LOOP, (1, 1, 2, -1, -1, -2), (1,) + LOOP + (-1,)), (LOOP, NOT_SEEN)):
            self.assertIsNotNone(self.check(2, rows))
        self.told(idle_numbers, 2, (LOOP * 2, LOOP * 3))
        for rows in (((),), ((1, -1),), ((), ())):
            self.assertIsNotNone(self.check(1, rows))

    def test_only_ones(self):
        """Numbers that make a show are the only ones exactly if there are no idle ones."""
        chance = Random(237)
        found = {True: 0, False: 0}
        for r in (2, 3):
            for _ in range(60):
                rows = tuple(round_trip(chance, r, chance.choice((10, 20))) for _ in range(chance.randint(1, 3)))
                if chance.random() < 0.4:
                    rows = rows + (alike_row(chance, r, rows[0]),)
                idle = self.check(r, rows)
                found[idle is None] += 1
                small = [numbers for numbers in product(range(-2, 3), repeat=len(rows)) if any(numbers) and made_by(r, numbers, rows) == ()]
                if small:
                    self.assertIsNotNone(idle)
                if idle is not None and max(map(abs, idle)) <= 2:
                    self.assertIn(idle, small)
        self.assertGreater(min(found.values()), 10)


if __name__ == "__main__":
    unittest.main()
