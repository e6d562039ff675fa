"""Part 7, [7.1] to [7.3]: n-th parts and roots of rows."""

import unittest
from math import gcd
from random import Random

from stilewalks.built import row_for
from stilewalks.errors import BadNumber, BadRow
from stilewalks.parts import judge_part, part_holds, part_of, root_of
from stilewalks.scripts import is_row, row_end, undone_row
from stilewalks.shows import rows_alike, show_of
from tests.helping import NOTHING, Case, near_misses
from tests.test_led import LOOP, alike_row, first_by, moved_by_hand, rolled_by_hand
from tests.test_rows import some_row
from tests.test_scripts import FAR

NO_NUMBERS = NOTHING + (0, -1, -2, True, False, "1", "2", None, (1,), [1], -10 ** 39, {2: 2}, ((), ()), (2,))


def barred_by_hand(r, row, n):
    """All certificates against an n-th part."""
    d = row_end(r, row)
    found = [("end", j) for j in range(r) if d[j] % n]
    if not any(d):
        return [("passage", (room, i)) for room, i, number in show_of(r, row) if number % n]
    if found:
        return found
    rolled = rolled_by_hand(show_of(r, row), d)
    there = moved_by_hand(rolled, tuple(item // n for item in d), d)
    one, other = ({(room, i): number for room, i, number in show} for show in (rolled, there))
    return [("moved", passage) for passage in sorted(set(one) | set(other)) if one.get(passage, 0) != other.get(passage, 0)]


def is_right(r, row, n, thing):
    if type(thing) is tuple and len(thing) == 2 and thing[0] == "part":
        # A row that is done very often is alike a row of few steps only if it is alike to nothing or closed.
        if not is_row(r, thing[1]):
            return False
        if n > 50:
            times = tuple((room, i, n * number) for room, i, number in show_of(r, thing[1]))
            return not any(row_end(r, thing[1])) and times == show_of(r, row)
        return rows_alike(r, thing[1] * n, row)
    return repr(thing) in [repr(certificate) for certificate in barred_by_hand(r, row, n)]


def opened(chance, r, row):
    """A row that is alike another one, but has no block that is done again."""
    for _ in range(3):
        row = alike_row(chance, r, row)
    return row


class Parts(Case):

    def check(self, r, row, n):
        certificate = judge_part(r, row, n)
        self.assertIs(is_right(r, row, n, certificate), True, (r, row, n, certificate))
        self.assertIs(part_holds(r, row, n, certificate), True)
        self.same(judge_part(r, row, n), certificate)
        part = part_of(r, row, n)
        barred = barred_by_hand(r, row, n)
        if certificate[0] == "part":
            self.assertEqual(barred, [])
            self.assertTrue(is_row(r, part))
            self.assertIs(part_holds(r, row, n, ("part", part)), True)
            self.assertIs(part_holds(r, row, n, ("part", (1, -1) + part + (-r, r))), True)
            self.assertIs(part_holds(r, row, n, ("part", part + (1,))), False)
            if part:
                self.assertIs(part_holds(r, row, n, ("part", part[1:])), False)
            for thing in (("end", 0), ("passage", ((0,) * r, 1)), ("moved", ((0,) * r, 1)), ("part", part, ()), ["part", part], ("part", list(part))):
                self.assertIs(part_holds(r, row, n, thing), False)
        else:
            self.assertIsNone(part)
            for thing in barred:
                self.assertIs(part_holds(r, row, n, thing), True)
            self.assertIs(part_holds(r, row, n, ("part", row)), False)
            self.assertIs(part_holds(r, row, n, ("part", ())), False)
        for j in range(-2, r + 2):
            self.assertIs(part_holds(r, row, n, ("end", j)), is_right(r, row, n, ("end", j)))
        return certificate

    def check_all(self, r, row):
        found = {}
        for n in [1, 2, 3, 4, 5, 6, 7, 8, 9, 10, 12, 16, 20, 39, 40, 41, 1000, 10 ** 6]:
            word = self.check(r, row, n)[0]
            found[word] = found.get(word, 0) + 1
        return found

    def test_repeats(self):
        """Rows that are a block done n times, and such that are alike to these."""
        chance = Random(101)
        for r in (1, 2, 3):
            for n in range(1, 9):
                for _ in range(8):
                    block = some_row(chance, r, 40 // n)
                    row = block * n
                    for w in (row, opened(chance, r, row)):
                        self.assertEqual(self.check(r, w, n)[0], "part")
                        self.assertIs(part_holds(r, w, n, ("part", block)), True)
                        self.assertTrue(rows_alike(r, part_of(r, w, n), block))
                        for k in range(1, n + 1):
                            if n % k == 0:
                                self.assertEqual(self.check(r, w, k)[0], "part")
                                self.assertTrue(rows_alike(r, part_of(r, w, k), block * (n // k)))
                    self.check(r, row, 2 * n)
                    self.check(r, row, n + 1)

    def test_around(self):
        """Blocks done n times around a short row."""
        chance = Random(102)
        for r in (1, 2, 3):
            for n in (2, 3, 4, 5):
                for _ in range(15):
                    block, ahead = some_row(chance, r, 30 // n), some_row(chance, r, 5)
                    row = ahead + block * n + undone_row(r, ahead)
                    self.assertEqual(self.check(r, row, n)[0], "part")
                    self.assertIs(part_holds(r, row, n, ("part", ahead + block + undone_row(r, ahead))), True)
                    row = ahead + block * n
                    self.check(r, row, n)

    def test_all_kinds(self):
        chance = Random(103)
        found = {}
        for r in (1, 2, 3):
            for most in (4, 12, 40):
                for _ in range(25):
                    row = some_row(chance, r, most)
                    if chance.random() < 0.4:
                        # Rows whose ends have many divisors.
                        row = tuple(sorted(row * 2, key=lambda step: (chance.random(), step)))[:40]
                        row += row[:40 - len(row)][::-1]
                    if chance.random() < 0.3:
                        back = undone_row(r, row[:20])
                        row = (row[:20] + back[::-1]) * chance.choice((1, 2))
                    for word, many in self.check_all(r, row[:40]).items():
                        found[word] = found.get(word, 0) + many
        self.assertEqual(sorted(found), ["end", "moved", "part", "passage"])
        self.assertGreater(min(found.values()), 40)

    def test_closed_rows(self):
        for n in range(1, 11):
            row = LOOP * n
            for k in (1, 2, 3, 4, 5, 6, 7, 8, 9, 10, 20, 10 ** 6):
                word = self.check(2, row, k)[0]
                self.assertEqual(word, "part" if n % k == 0 else "passage")
                if n % k == 0:
                    self.assertIs(part_holds(2, row, k, ("part", LOOP * (n // k))), True)
        mixed = (LOOP + (-1, 2, 1, -2) + LOOP + (-1, 2, 1, -2)) * 2
        self.assertEqual(self.check(2, mixed, 4)[0], "part")
        self.assertTrue(rows_alike(2, part_of(2, mixed, 4), LOOP + (-1, 2, 1, -2)))
        self.tells(True, part_holds, 2, (1, 1) + LOOP * 3 + (-1, -1), 3, ("part", (1, 1) + LOOP + (-1, -1)))
        self.tells(False, part_holds, 2, (1, 1) + LOOP * 3 + (-1, -1), 3, ("part", LOOP))
        self.tells(False, part_holds, 2, LOOP * 3, 3, ("part", LOOP + (1,)))
        self.tells(True, part_holds, 2, LOOP, 2, ("passage", ((0, 0), 1)))
        self.tells(True, part_holds, 2, LOOP, 10 ** 6, ("passage", ((0, 1), 1)))
        self.tells(False, part_holds, 2, LOOP, 2, ("passage", ((1, 1), 1)))
        self.tells(False, part_holds, 2, LOOP, 1, ("passage", ((0, 0), 1)))
        self.tells(False, part_holds, 2, LOOP * 2, 2, ("passage", ((0, 0), 1)))
        # "passage" is for closed rows alone, and "moved" for the others.
        self.tells(False, part_holds, 2, LOOP, 2, ("moved", ((0, 0), 1)))
        self.tells(False, part_holds, 2, (1, 1, 2, 2), 2, ("passage", ((0, 0), 1)))
        self.tells(False, part_holds, 2, (1, 1, 2), 2, ("passage", ((0, 0), 1)))

    def test_alike_to_nothing(self):
        nothing = LOOP + (-1, 2, 1, -2) + (2, 1, -2, -1) + (2, -1, -2, 1)
        for r, row in ((1, ()), (1, (1, -1)), (2, nothing), (3, (3, 1, -1, -3))):
            for n in (1, 2, 7, 10 ** 6):
                self.assertEqual(self.check(r, row, n)[0], "part")
                self.tells(True, part_holds, r, row, n, ("part", ()))
                self.tells(True, part_holds, r, row, n, ("part", (1, -1, -r, r)))
                self.tells(True, part_holds, r, row, n, ("part", row))
                self.tells(False, part_holds, r, row, n, ("part", (1,)))
        self.tells(True, part_holds, 2, (), 10 ** 6, ("part", nothing))
        self.tells(False, part_holds, 2, (), 10 ** 6, ("part", LOOP))

    def test_one(self):
        chance = Random(104)
        for r in (1, 2, 3):
            for _ in range(20):
                row = some_row(chance, r, 40)
                self.assertEqual(self.check(r, row, 1)[0], "part")
                self.assertTrue(rows_alike(r, part_of(r, row, 1), row))
                self.tells(True, part_holds, r, row, 1, ("part", row))
                self.tells(show_of(r, row) == show_of(r, row[::-1]), part_holds, r, row, 1, ("part", row[::-1]))

    def test_moved(self):
        self.tells(True, part_holds, 2, (1, 1, 2, 2), 2, ("moved", ((0, 0), 1)))
        for row, n in (((1, 1, 2, 2), 2), ((1, 2, 2, 1), 2), ((1, 1, 1, 2, 2, 2), 3), ((1, 2, 1, 1, 2, 2), 3), (LOOP + (1, 1), 2), (LOOP + (2, 2, 2), 3)):
            right = barred_by_hand(2, row, n)
            self.assertEqual(right[0][0], "moved")
            self.check(2, row, n)
            d = row_end(2, row)
            for a in range(-4, 5):
                for b in range(-4, 5):
                    for i in (0, 1, 2, 3):
                        thing = ("moved", ((a, b), i))
                        self.assertIs(part_holds(2, row, n, thing), thing in right)
                        if first_by((a, b), d) != (a, b):
                            self.assertNotIn(thing, right)
            # For other n the end is n times no room.
            for thing in right:
                self.assertIs(part_holds(2, row, 7, thing), False)
                self.assertIs(part_holds(2, row, 1, thing), False)

    def test_plain(self):
        self.tells(("end", 1), judge_part, 2, (1, 1, 2), 2)
        self.tells(None, part_of, 2, (1, 1, 2), 2)
        self.tells((1,), part_of, 1, (1, 1, 1), 3)
        self.tells(("part", (1,)), judge_part, 1, (1, 1, 1), 3)
        self.tells(True, part_holds, 2, (1, 2, 1, 2), 2, ("part", (1, 2)))
        self.tells(False, part_holds, 2, (1, 2, 1, 2), 2, ("part", (2, 1)))
        self.tells(True, part_holds, 2, (1, 1, 2), 10 ** 6, ("end", 0))
        self.tells(False, part_holds, 2, (1, 1, 2), 2, ("end", 0))
        self.tells(False, part_holds, 2, (1, 1, 2), 2, ("end", -1))
        self.tells(False, part_holds, 2, (1, 1, 2), 2, ("end", 2))
        self.tells(False, part_holds, 2, (1, 1, 2), 2, ("end", True))
        self.tells(False, part_holds, 2, (1, 2, 2), 2, ("end", False))

    def test_any_certificate(self):
        chance = Random(105)
        for row, n in (((1, 1, 2), 2), ((1, 2, 1, 2), 2), ((1, 1, 2, 2), 2), (LOOP, 2), (LOOP * 2, 2), ((), 5), ((1, 1, 1, 1), 4)):
            for thing in NOTHING + ("part", ("part",), ("end",), ("passage",), ("moved",), ("part", None), ("end", None), ("passage", None), ("moved", None),
                                    ("moved", ()), ("passage", (None, None)), ("end", 10 ** 39), ({}, ()), ("part", [1]), ("moved", ([0, 0], 1))):
                self.assertIs(part_holds(2, row, n, thing), is_right(2, row, n, thing))
            for word in (judge_part(2, row, n), ("moved", ((0, 0), 1)), ("passage", ((0, 0), 1)), ("end", 1), ("part", (1, 2)), ("part", LOOP)):
                for thing in near_misses(chance, word, 250):
                    self.assertIs(part_holds(2, row, n, thing), is_right(2, row, n, thing), (row, n, thing))

    def test_errors(self):
        for r in (1, 2, 3):
            for thing in NOTHING + ((r + 1,), (0,), (-r - 1,), (True,), [1], 1):
                for n in (1, 0, None):
                    self.refuses(BadRow(thing), judge_part, r, thing, n)
                    self.refuses(BadRow(thing), part_of, r, thing, n)
                    self.refuses(BadRow(thing), part_holds, r, thing, n, ("part", ()))
            for n in NO_NUMBERS:
                if type(n) is int and n > 0:
                    continue
                for row in ((), (1,), (1, r, -1)):
                    self.refuses(BadNumber(n), judge_part, r, row, n)
                    self.refuses(BadNumber(n), part_of, r, row, n)
                    self.refuses(BadNumber(n), part_holds, r, row, n, ("part", row))


class Roots(Case):

    def check(self, r, row):
        told = root_of(r, row)
        self.assertIs(type(told), tuple)
        root, power = told
        self.assertIs(type(power), int)
        self.assertTrue(is_row(r, root))
        self.assertIs(part_holds(r, row, power, ("part", root)), True)
        self.assertTrue(rows_alike(r, root * power, row))
        for n in range(power + 1, 62):
            self.assertNotEqual(barred_by_hand(r, row, n), [])
        for n in range(1, power + 1):
            self.assertEqual(barred_by_hand(r, row, n) == [], power % n == 0)
        self.same(root_of(r, row), told)
        return power

    def test_repeats(self):
        chance = Random(106)
        for r in (1, 2, 3):
            for n in range(1, 9):
                for _ in range(8):
                    block, ahead = some_row(chance, r, 40 // n), some_row(chance, r, 3)
                    for row in (block * n, opened(chance, r, block * n), ahead + block * n + undone_row(r, ahead)):
                        if show_of(r, row):
                            self.assertEqual(self.check(r, row) % n, 0)

    def test_one_direction(self):
        for r in (1, 2, 3):
            for k in range(1, 41):
                for step in (1, -r):
                    self.tells(((step,), k), root_of, r, (step,) * k)
            self.tells(((1,), 4), root_of, r, (1,) * 22 + (-1,) * 18)

    def test_closed_rows(self):
        for k in range(1, 11):
            self.assertEqual(self.check(2, LOOP * k), k)
            self.assertEqual(self.check(2, (1, 2) + LOOP * k + (-2, -1)), k)
        self.assertEqual(self.check(2, LOOP * 4 + (2, 1, 2, -1, -2, -2) * 2), 2)
        self.assertEqual(self.check(3, (3,) + LOOP * 6 + (-3,) + (1, 3, -1, -3) * 3), 3)

    def test_many(self):
        chance = Random(107)
        for r in (1, 2, 3):
            for _ in range(60):
                row = some_row(chance, r, 40)
                if show_of(r, row):
                    power, end = self.check(r, row), row_end(r, row)
                    if any(end):
                        self.assertEqual(gcd(*end) % power, 0)

    def test_errors(self):
        nothing = LOOP + (-1, 2, 1, -2) + (2, 1, -2, -1) + (2, -1, -2, 1)
        for r in (1, 2, 3):
            for thing in NOTHING + ((r + 1,), (0,), (-r - 1,), (True,), [1], 1, (), (1, -1), (r, 1, -1, -r), FAR):
                self.refuses(BadRow(thing), root_of, r, thing)
        self.refuses(BadRow(nothing), root_of, 2, nothing)
        self.refuses(BadRow(nothing * 2), root_of, 3, nothing * 2)

    def test_calls(self):
        self.assertEqual(self.told(root_of, 2, (1, 2, 1, 2))[1], 2)
        self.assertEqual(self.told(root_of, 2, row_for(2, show_of(2, (1, 2) * 5)))[1], 5)


if __name__ == "__main__":
    unittest.main()
