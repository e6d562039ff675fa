"""Part 7, [7.4]: rows that can be done in either order."""

import unittest
from random import Random

from stilewalks.errors import BadRow
from stilewalks.orders import is_either_order, judge_order, order_holds
from stilewalks.parts import root_of
from stilewalks.scripts import is_row, row_end, undone_row
from stilewalks.shows import rows_alike, show_of
from tests.helping import NOTHING, Case, near_misses
from tests.test_led import LOOP, alike_row
from tests.test_rows import some_row
from tests.test_shows import crossed

NOT_SEEN = LOOP + (-1, 2, 1, -2) + (2, 1, -2, -1) + (2, -1, -2, 1)


def barred_by_hand(r, one, other):
    """All passages at which the two orders show unlike numbers."""
    first, second = ({(room, i): number for room, i, number in crossed(r, row)} for row in (one + other, other + one))
    return [passage for passage in sorted(set(first) | set(second)) if first.get(passage, 0) != second.get(passage, 0)]


def repeated(r, row, k):
    return row * k if k >= 0 else undone_row(r, row) * -k


def is_repeat(r, row, part, k):
    """Whether a row of few steps is alike another one, done k times."""
    end, by = row_end(r, row), row_end(r, part)
    if tuple(k * item for item in by) != end:
        return False
    if any(by):
        return rows_alike(r, repeated(r, part, k), row)
    return tuple((room, i, k * number) for room, i, number in show_of(r, part) if k) == show_of(r, row)


def is_right(r, one, other, thing):
    if type(thing) is not tuple or not thing:
        return False
    if thing[0] == "closed":
        return len(thing) == 1 and not any(row_end(r, one)) and not any(row_end(r, other))
    if thing[0] == "passage":
        return len(thing) == 2 and repr(thing[1]) in [repr(passage) for passage in barred_by_hand(r, one, other)]
    if thing[0] != "row" or len(thing) != 4 or not is_row(r, thing[1]):
        return False
    if type(thing[2]) is not int or type(thing[3]) is not int:
        return False
    return is_repeat(r, one, thing[1], thing[2]) and is_repeat(r, other, thing[1], thing[3])


class Orders(Case):

    def check(self, r, one, other):
        certificate = judge_order(r, one, other)
        self.assertIs(is_right(r, one, other, certificate), True, (r, one, other, certificate))
        self.assertIs(order_holds(r, one, other, certificate), True)
        self.same(judge_order(r, one, other), certificate)
        barred = barred_by_hand(r, one, other)
        self.assertIs(is_either_order(r, one, other), not barred)
        self.assertIs(is_either_order(r, other, one), not barred)
        self.assertEqual(certificate[0] == "passage", bool(barred))
        closed = not any(row_end(r, one) + row_end(r, other))
        self.assertIs(order_holds(r, one, other, ("closed",)), closed)
        for passage in barred:
            self.assertIs(order_holds(r, one, other, ("passage", passage)), True)
        if not barred:
            room, i = (0,) * r, 1
            self.assertIs(order_holds(r, one, other, ("passage", (room, i))), False)
        if certificate[0] == "row":
            _, row, k, l = certificate
            self.assertIs(order_holds(r, one, other, ("row", (1, -1) + row, k, l)), True)
            self.assertIs(order_holds(r, one, other, ("row", undone_row(r, row), -k, -l)), True)
            for thing in (("row", row + (1,), k, l), ("row", row, k + 1, l), ("row", row, k, l - 1), ("row", row, -k, -l),
                          ("row", row, l, k), ("row", row, k), ("row", row, k, l, 0), ("row", list(row), k, l), ["row", row, k, l]):
                self.assertIs(order_holds(r, one, other, thing), is_right(r, one, other, thing))
        return certificate[0]

    def test_repeats(self):
        """Repeats of one row, done and undone, also written otherwise."""
        chance = Random(131)
        for r in (1, 2, 3):
            for k in (-4, -3, -2, -1, 0, 1, 2, 3, 5):
                for l in (-3, -1, 0, 1, 2, 4):
                    row = some_row(chance, r, 40 // max(abs(k), abs(l), 5))
                    if r == 1 and not row:
                        row = (1,)
                    one, other = repeated(r, row, k), repeated(r, row, l)
                    for first, second in ((one, other), (alike_row(chance, r, one), alike_row(chance, r, other))):
                        if len(first) > 60 or len(second) > 60:
                            continue
                        self.assertNotEqual(self.check(r, first, second), "passage")
                        self.assertIs(order_holds(r, first, second, ("row", row, k, l)), True)
                        self.assertIs(order_holds(r, first, second, ("row", alike_row(chance, r, row), k, l)), True)
                    if any(row_end(r, row)) and k:
                        root = root_of(r, row)[0]
                        certificate = judge_order(r, one, other)
                        # All of them are repeats of the root, done or undone.
                        self.assertTrue(any(is_repeat(r, certificate[1], root, n) for n in range(-200, 201) if n))

    def test_around(self):
        """Rows around repeats: of one row they can be done in either order, of rows on one line not always."""
        chance = Random(132)
        words = {}
        for r in (1, 2, 3):
            for _ in range(60):
                ahead, row, beside = some_row(chance, r, 4), some_row(chance, r, 5), some_row(chance, r, 2)
                k, l = chance.randint(-3, 3), chance.randint(-3, 3)
                one = ahead + repeated(r, row, k) + undone_row(r, ahead)
                self.assertNotEqual(self.check(r, one, ahead + repeated(r, row, l) + undone_row(r, ahead)), "passage")
                word = self.check(r, one, beside + repeated(r, row, l) + undone_row(r, beside))
                words[word] = words.get(word, 0) + 1
        self.assertEqual(sorted(words), ["closed", "passage", "row"])

    def test_closed(self):
        chance = Random(133)
        for r in (2, 3):
            rows = [LOOP, LOOP * 3, (1, 1) + LOOP + (-1, -1), NOT_SEEN, (), (2, 2, 1, -2, -2, -1)]
            for one in rows:
                for other in rows:
                    self.assertEqual(self.check(r, one, other), "closed")
            for one in rows:
                for _ in range(10):
                    other = some_row(chance, r, 12)
                    if any(row_end(r, other)):
                        word = "row" if show_of(r, one) == () else "passage"
                        self.assertEqual(self.check(r, one, other), word)
                        self.assertEqual(self.check(r, other, one), word)
        # Two closed rows can also be repeats of one row.
        self.tells(True, order_holds, 2, LOOP * 2, LOOP * 3, ("row", LOOP, 2, 3))
        self.tells(True, order_holds, 2, LOOP * 2, LOOP * 3, ("closed",))
        self.tells(False, order_holds, 2, LOOP * 2, LOOP * 3, ("row", LOOP, 3, 2))
        self.tells(True, order_holds, 2, NOT_SEEN, LOOP, ("row", LOOP, 0, 1))
        self.tells(True, order_holds, 2, NOT_SEEN, LOOP, ("row", undone_row(2, LOOP), 0, -1))
        self.tells(False, order_holds, 2, LOOP, (2, 1, -2, -1), ("row", LOOP, 1, 1))
        self.tells(True, order_holds, 2, LOOP, (2, 1, -2, -1), ("row", LOOP, 1, -1))

    def test_alike_to_nothing(self):
        for r, nothing in ((1, ()), (1, (1, -1)), (2, NOT_SEEN), (3, (3, 1, -1, -3))):
            for row in ((1,), (-1,) * 5, (r, r), (1,) * 40):
                self.assertEqual(self.check(r, nothing, row), "row")
                self.assertEqual(self.check(r, row, nothing), "row")
                self.tells(True, order_holds, r, nothing, row, ("row", row, 0, 1))
                self.tells(False, order_holds, r, nothing, row, ("row", row, 1, 1))
                self.tells(False, order_holds, r, nothing, row, ("closed",))
            self.assertEqual(self.check(r, nothing, ()), "closed")
            for k, l in ((0, 0), (1, 0), (10 ** 39, -10 ** 39), (5, 7)):
                self.tells(True, order_holds, r, nothing, (), ("row", (), k, l))
                self.tells(True, order_holds, r, nothing, (), ("row", nothing, k, l))
                self.tells(k == 0 and l == 0, order_holds, r, nothing, (), ("row", (1,), k, l))

    def test_neither(self):
        self.tells(True, order_holds, 2, (1, 2), (-2, -1, -2, -1), ("row", (1, 2), 1, -2))
        self.tells(True, is_either_order, 2, (1, 2), (-2, -1, -2, -1))
        self.tells(False, is_either_order, 2, (1,), (2,))
        self.tells(False, is_either_order, 2, (1, 2), (2, 1))
        self.tells(True, order_holds, 2, (1,), (2,), ("passage", ((1, 0), 2)))
        self.tells(False, order_holds, 2, (1,), (2,), ("passage", ((1, 1), 2)))
        self.tells(("closed",), judge_order, 2, LOOP, undone_row(2, LOOP))
        chance = Random(134)
        words = {}
        for r in (1, 2, 3):
            for most in (4, 10, 40):
                for _ in range(60):
                    word = self.check(r, some_row(chance, r, most), some_row(chance, r, most))
                    words[word] = words.get(word, 0) + 1
        self.assertGreater(words["passage"], 200)
        for r in (1, 2, 3):
            for _ in range(5):
                self.told(judge_order, r, some_row(chance, r, 40), some_row(chance, r, 40))
                self.told(is_either_order, r, some_row(chance, r, 40), some_row(chance, r, 40))

    def test_any_certificate(self):
        chance = Random(135)
        pairs = [((1, 2), (-2, -1, -2, -1)), (LOOP, LOOP * 2), ((1,), (2,)), ((), ()), ((), (1, 1)), ((1, 1), (1, -1)),
                 (LOOP, (1, 2)), ((1,) * 4, (-1,) * 6)]
        for one, other in pairs:
            for thing in NOTHING + ("closed", ["closed"], ("closed", ()), ("closed", None), ("row",), ("row", ()), ("row", (), 0), ("row", (), 0, 0),
                                    ("row", (), False, False), ("row", (), None, 0), ("row", [1], 1, 1), ("row", None, 1, 1), ("passage",),
                                    ("passage", None), ("passage", ()), ("passage", ((0, 0),)), ("passage", ([0, 0], 1)), ("passage", ((0, 0), True)),
                                    ("row", (1,), 10 ** 39, -10 ** 39), ("row", (1, -1), 10 ** 39, 7), ({}, ()), ("Closed",), ("row", (1, 2), True, -2)):
                self.assertIs(order_holds(2, one, other, thing), is_right(2, one, other, thing), (one, other, thing))
            for word in (judge_order(2, one, other), ("row", (1,), 4, -6), ("row", (1, 2), 1, -2), ("passage", ((1, 0), 2)), ("row", LOOP, 1, 2), ("closed",)):
                for thing in near_misses(chance, word, 150):
                    self.assertIs(order_holds(2, one, other, thing), is_right(2, one, other, thing), (one, other, thing))

    def test_errors(self):
        for r in (1, 2, 3):
            for thing in NOTHING + ((r + 1,), (0,), (-r - 1,), (True,), [1], 1):
                for function in (is_either_order, judge_order):
                    self.refuses(BadRow(thing), function, r, thing, (1,))
                    self.refuses(BadRow(thing), function, r, (1,), thing)
                    self.refuses(BadRow(thing), function, r, thing, None)
                for certificate in (("closed",), thing):
                    self.refuses(BadRow(thing), order_holds, r, thing, (1,), certificate)
                    self.refuses(BadRow(thing), order_holds, r, (1,), thing, certificate)
                    self.refuses(BadRow(thing), order_holds, r, thing, [1], certificate)


if __name__ == "__main__":
    unittest.main()
