"""Part 2, [2.4]: alike rows."""

import unittest
from random import Random

from stilewalks.errors import BadRow
from stilewalks.scripts import reduced_row, row_end, undone_row
from stilewalks.shows import rows_alike, show_of
from tests.helping import NOTHING, Case
from tests.test_rows import some_row

ONE, OTHER = (1, 2, -1, -2), (-1, 2, 1, -2)


class AlikeRows(Case):

    def test_alike_with_unlike_reduced_rows(self):
        one, other = ONE + OTHER, OTHER + ONE
        self.assertNotEqual(reduced_row(2, one), reduced_row(2, other))
        for r in (2, 3, 4):
            self.tells(True, rows_alike, r, one, other)
            self.tells(False, rows_alike, r, ONE, OTHER)
            self.tells(True, rows_alike, r, ONE * 2 + OTHER, ONE + OTHER + ONE)
            self.tells(False, rows_alike, r, ONE * 2 + OTHER, ONE + OTHER * 2)

    def test_equal_ends_but_not_alike(self):
        for one, other in (((1, 2), (2, 1)), (ONE, ()), (ONE, undone_row(2, ONE)), (ONE, ONE * 2),
                           ((1,) + ONE, ONE + (1,)), ((2, 1, -2), (1,))):
            self.assertEqual(row_end(2, one), row_end(2, other))
            self.tells(False, rows_alike, 2, one, other)
            self.tells(False, rows_alike, 2, other, one)

    def test_unlike_ends(self):
        for one, other in (((1,), ()), ((1,), (-1,)), ((1,), (1, 1)), ((1,), (2,)), ((1, 2), (1, -2))):
            self.tells(False, rows_alike, 2, one, other)
            self.tells(False, rows_alike, 2, other, one)

    def test_same_reduced_rows(self):
        self.tells(True, rows_alike, 1, (), ())
        self.tells(True, rows_alike, 1, (1, -1), ())
        self.tells(True, rows_alike, 1, (1, -1), (-1, 1))
        self.tells(True, rows_alike, 3, (1, 2, 3, -3, -2), (1,))
        self.tells(True, rows_alike, 4, (4, 1, -1, -3, 3), (4,))

    def test_many_rows(self):
        chance = Random(25)
        for r in range(1, 5):
            for _ in range(80):
                one, other, third = some_row(chance, r, 4), some_row(chance, r, 4), some_row(chance, r, 4)
                alike = row_end(r, one) == row_end(r, other) and show_of(r, one) == show_of(r, other)
                self.tells(alike, rows_alike, r, one, other)
                self.tells(alike, rows_alike, r, third + one, third + other)
                self.tells(alike, rows_alike, r, one + third, other + third)
                self.tells(alike, rows_alike, r, undone_row(r, one), undone_row(r, other))
                self.tells(True, rows_alike, r, one, reduced_row(r, one))

    def test_no_rows(self):
        for r in range(1, 5):
            for thing in NOTHING + ((r + 1,), (0,), (-r - 1,), (True,), [1], 1):
                self.refuses(BadRow(thing), rows_alike, r, thing, ())
                self.refuses(BadRow(thing), rows_alike, r, (1,), thing)
                self.refuses(BadRow(thing), rows_alike, r, thing, [])
                self.refuses(BadRow(thing), rows_alike, r, thing, (r + 1, r + 1))


if __name__ == "__main__":
    unittest.main()
