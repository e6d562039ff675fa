"""Part 1, [1.1]: rooms, steps and rows."""

import unittest
from random import Random

from stilewalks.errors import BadRow
from stilewalks.scripts import is_room, is_row, reduced_row, row_end, undone_row
from tests.helping import NOTHING, Case


def some_row(chance, r, most):
    return tuple(chance.choice((1, -1)) * chance.randint(1, r) for _ in range(chance.randint(0, most)))


def walked(r, row):
    """The end of a row, by counting."""
    return tuple(row.count(i) - row.count(-i) for i in range(1, r + 1))


def taken_out(row, last):
    """The row reduced by taking out one pair of neighbours at a time, from one side or the other."""
    while True:
        pairs = [k for k in range(len(row) - 1) if row[k] + row[k + 1] == 0]
        if not pairs:
            return row
        k = pairs[-1 if last else 0]
        row = row[:k] + row[k + 2:]


class Rooms(Case):

    def test_rooms(self):
        for r in range(1, 5):
            for room in ((0,) * r, (-7,) * r, (10 ** 100 - 1,) * r, tuple(range(r))):
                for q in range(1, 5):
                    self.tells(q == r, is_room, q, room)
        self.tells(False, is_room, 1, ())

    def test_no_rooms(self):
        for r in range(1, 5):
            for thing in NOTHING:
                self.tells(False, is_room, r, thing)
            for wrong in (True, False, None, "0", (0,), [0], (), {}):
                for k in range(r):
                    self.tells(False, is_room, r, (0,) * k + (wrong,) + (0,) * (r - k - 1))
            self.tells(False, is_room, r, [0] * r)


class Rows(Case):

    def test_rows(self):
        for r in range(1, 5):
            self.tells(True, is_row, r, ())
            for step in range(1, 6):
                self.tells(step <= r, is_row, r, (step,))
                self.tells(step <= r, is_row, r, (1, -step, -1))
            self.tells(False, is_row, r, (0,))
            self.tells(False, is_row, r, (1, 0))
            self.tells(False, is_row, r, (10 ** 30,))
            self.tells(True, is_row, r, (r, -r) * 30)
            self.tells(True, is_row, r, (-1,) * 5000)

    def test_no_rows(self):
        for r in range(1, 5):
            wrong = NOTHING + ((r + 1,), (-r - 1,), (1, r + 1), (-1, -r - 1, 1), (0,), [], [1, r], (1, [1]),
                               (1, True), (True, 1), (False,), ("1",), (1, None), 1, -1, ("row",), (1, (1,)))
            for thing in wrong:
                self.tells(False, is_row, r, thing)
                for function in (row_end, undone_row, reduced_row):
                    self.refuses(BadRow(thing), function, r, thing)

    def test_ends(self):
        self.tells((0,), row_end, 1, ())
        self.tells((0, 0, 0, 0), row_end, 4, ())
        self.tells((2, -1), row_end, 2, (1, 1, -2))
        self.tells((0, -1, 1), row_end, 3, (3, -2))
        self.tells((0, 0, 0, -1), row_end, 4, (-4,))
        self.tells((0, 0), row_end, 2, (1, 2, -1, -2))
        self.tells((60,), row_end, 1, (1,) * 60)
        self.tells((-5000, 0), row_end, 2, (-1,) * 5000)

    def test_undone(self):
        self.tells((), undone_row, 1, ())
        self.tells((-2, -2, -1), undone_row, 2, (1, 2, 2))
        self.tells((4, -3, 2, -1), undone_row, 4, (1, -2, 3, -4))
        self.tells((1, -1), undone_row, 1, (1, -1))

    def test_reduced(self):
        for row in ((1, -1), (1, 2, -2, -1), (1, 2, 3, 4, -4, -3, -2, -1), (1, -1, -2, 2), (-1, 1, 1, -1)):
            self.tells((), reduced_row, 4, row)
        self.tells((), reduced_row, 1, ())
        self.tells((2,), reduced_row, 2, (1, 2, -2, -1, 2))
        self.tells((1, 2, -1, -2), reduced_row, 2, (1, 2, -1, -2))
        self.tells((1,), reduced_row, 1, (1, -1, 1))
        self.tells((1, 1), reduced_row, 1, (1, 1))
        self.tells((2, 2), reduced_row, 2, (2, 1, -2, 2, -1, 2))
        self.tells((-1, 2), reduced_row, 2, (-1, 2))

    def test_many_rows(self):
        chance = Random(11)
        for r in range(1, 5):
            for _ in range(60):
                row = some_row(chance, r, 60)
                self.tells(walked(r, row), row_end, r, row)
                undone = self.told(undone_row, r, row)
                self.assertTrue(is_row(r, undone))
                self.assertEqual(undone, tuple(-row[k] for k in range(len(row) - 1, -1, -1)))
                self.tells(row, undone_row, r, undone)
                self.tells(tuple(-item for item in row_end(r, row)), row_end, r, undone)
                self.tells(taken_out(row, False), reduced_row, r, row)
                self.tells(taken_out(row, True), reduced_row, r, row)
                self.tells((), reduced_row, r, row + undone)


if __name__ == "__main__":
    unittest.main()
