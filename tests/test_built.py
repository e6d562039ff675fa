"""Part 5, [5.1] and [5.2]: balanced shows, rows built for them, and pieces."""

import unittest
from random import Random

from stilewalks.built import is_balanced, judge_show, pieces_of, row_for, show_holds
from stilewalks.errors import BadShow, NotBalanced
from stilewalks.scripts import is_row, row_end
from stilewalks.shows import is_show, left_over, moved, plus, show_of, times
from tests.helping import NOTHING, Case, near_misses
from tests.test_rows import some_row
from tests.test_shows import LONG, ahead_of, crossed, no_shows, over, some_show

SQUARE = (((0, 0), 1, 1), ((0, 0), 2, -1), ((0, 1), 1, -1), ((1, 0), 2, 1))


def some_room(chance, r, size):
    return tuple(chance.randint(-size, size) for _ in range(r))


def loops_far_away(chance, r, many, size):
    """A show of several closed rows that are moved to rooms here and there; of doublings to and fro for r = 1 none."""
    show = ()
    for _ in range(many):
        row = some_row(chance, r, 10)
        row += tuple(-step for step in sorted(row, key=lambda step: (chance.random(), step)))
        show = plus(r, show, times(r, chance.choice((1, -1, 2)), moved(r, show_of(r, row), some_room(chance, r, size - 10))))
    return show


def rights(r, show):
    """All certificates against a show, by their words."""
    over_there = [(room, number) for room, number in over(r, show) if any(room)]
    found = [("room", room) for room, number in over_there if number != -1]
    ones = [room for room, number in over_there if number == -1]
    return found + [("rooms", one, other) for one in ones for other in ones if one < other]


class Balanced(Case):

    def check_balanced(self, r, show):
        self.assertIs(is_balanced(r, show), True)
        row = row_for(r, show)
        self.assertTrue(is_row(r, row))
        self.same(crossed(r, row), show)
        self.same(row_for(r, show), row)
        certificate = judge_show(r, show)
        self.assertEqual(certificate[0], "row")
        self.assertEqual(len(certificate), 2)
        self.same(show_of(r, certificate[1]), show)
        self.same(judge_show(r, show), certificate)
        for thing in (certificate, ("row", row), ("row", row + (1, -1)), ("row", (r, -r) + row)):
            self.assertIs(show_holds(r, show, thing), True)
        for thing in (("row", row + (1,)), ("row", row, ()), ("row",), ["row", row], ("row", list(row)), ("row", row + (r + 1,)),
                      ("row", row + (True,)), ("room", row_end(r, row)), ("room", (1,) * r), ("room", (0,) * r),
                      ("rooms", (0,) * r, row_end(r, row)), ("rooms", row_end(r, row), row_end(r, row)), row, ("Row", row)):
            self.assertIs(show_holds(r, show, thing), False, (show, thing))
        return row

    def check_barred(self, r, show):
        self.assertIs(is_balanced(r, show), False)
        certificate = judge_show(r, show)
        right = [repr(thing) for thing in rights(r, show)]
        self.assertIn(repr(certificate), right)
        self.same(judge_show(r, show), certificate)
        with self.assertRaises(NotBalanced) as caught:
            row_for(r, show)
        self.assertEqual(list(vars(caught.exception)), ["certificate"])
        self.assertIn(repr(caught.exception.certificate), right)
        for thing in rights(r, show):
            self.assertIs(show_holds(r, show, thing), True)
        self.assertIs(show_holds(r, show, ("row", ())), False)
        for room in sorted({room for room, _ in over(r, show)} | {(0,) * r, (1,) * r}):
            self.assertIs(show_holds(r, show, ("room", room)), repr(("room", room)) in right)
            for other in sorted({room for room, _ in over(r, show)})[:6]:
                self.assertIs(show_holds(r, show, ("rooms", room, other)), repr(("rooms", room, other)) in right)

    def test_shows_of_rows(self):
        chance = Random(71)
        for r in range(1, 5):
            for _ in range(60):
                self.check_balanced(r, show_of(r, some_row(chance, r, 60)))

    def test_greatest_shows_of_rows(self):
        chance = Random(72)
        for r in range(1, 5):
            for _ in range(5):
                row = tuple(chance.choice((1, -1, 1)) * chance.randint(1, r) for _ in range(300))
                self.check_balanced(r, show_of(r, row))
            self.check_balanced(r, show_of(r, (r,) * 30))
            self.check_balanced(r, ())
        loop = (1, 2, -1, -2)
        self.check_balanced(2, show_of(2, loop * 75))
        self.check_balanced(3, show_of(3, (3,) * 28 + loop * 70))

    def test_several_pieces(self):
        chance = Random(73)
        for r in (2, 3, 4):
            for _ in range(30):
                show = loops_far_away(chance, r, chance.randint(1, 6), 30)
                self.check_balanced(r, show)
                show = plus(r, show, show_of(r, some_row(chance, r, 30)))
                self.check_balanced(r, show)

    def test_twelve_pieces(self):
        rooms = [(a, b) for a in (-30, -3, 29) for b in (-30, -2, 3, 29)]
        show = ()
        for k, room in enumerate(rooms):
            show = plus(2, show, times(2, (-1) ** k * (1 + k % 6), moved(2, SQUARE, room)))
        self.assertEqual(len(pieces_of(2, show)), 12)
        self.assertLessEqual(sum(abs(number) for _, _, number in show), 300)
        self.check_balanced(2, show)
        self.check_balanced(2, plus(2, show, show_of(2, (1, 2, 2, 1, -2))))
        # Pieces beside each other, which touch in no room.
        show = plus(2, plus(2, SQUARE, moved(2, SQUARE, (2, 0))), plus(2, moved(2, SQUARE, (0, 2)), moved(2, SQUARE, (2, 2))))
        self.assertEqual(len(pieces_of(2, show)), 4)
        self.check_balanced(2, show)
        # Pieces within one another.
        outer = show_of(2, (-1, -2) + (1,) * 5 + (2,) * 5 + (-1,) * 5 + (-2,) * 5 + (2, 1))
        outer = plus(2, outer, show_of(2, (-1, -2, 2, 1)))
        self.check_balanced(2, plus(2, outer, moved(2, SQUARE, (1, 1))))

    def test_closed_away_from_the_beginning(self):
        for room in ((30, 30), (-30, 30), (30, -30), (-30, -30), (0, 5), (-7, 0), (-1, -1), (-1, 0), (0, -1), (0, 0)):
            for number in (1, -1, 3, -75):
                self.check_balanced(2, times(2, number, moved(2, SQUARE, room)))

    def test_unbalanced(self):
        self.check_barred(1, (((0,), 1, 2),))
        self.check_barred(1, (((0,), 1, -1), ((1,), 1, -1), ((3,), 1, 1)))
        self.check_barred(1, (((0,), 1, -2),))
        self.check_barred(1, (((1,), 1, 1),))
        self.check_barred(1, (((1,), 1, -1),))
        self.check_barred(2, (((0, 0), 1, 1), ((0, 0), 2, 1)))
        self.check_barred(2, (((0, 0), 1, 1), ((0, 0), 2, 1), ((0, 5), 2, -1)))
        self.check_barred(2, plus(2, moved(2, SQUARE, (3, 3)), (((0, 0), 1, -2),)))
        self.same(judge_show(2, (((0, 0), 1, 1), ((0, 0), 2, 1))), ("rooms", (0, 1), (1, 0)))
        # A row that does not begin in the beginning.
        self.check_barred(2, moved(2, show_of(2, (1, 1, 2)), (1, 0)))
        self.check_barred(2, moved(2, show_of(2, (1, 1, 2)), (-2, -1)))
        self.check_barred(2, moved(2, show_of(2, (1, 1, 2)), (-1, 0)))
        # Two and more walks from the beginning.
        self.check_barred(2, plus(2, show_of(2, (1, 1)), show_of(2, (2, 2))))
        self.check_barred(2, plus(2, show_of(2, (1, 1)), show_of(2, (1, 1))))
        self.check_barred(2, times(2, -1, show_of(2, (1, 1))))

    def test_many_unbalanced(self):
        chance = Random(74)
        kinds = {"room": 0, "rooms": 0}
        for r in range(1, 5):
            for k in range(80):
                show = some_show(chance, r, 12, 2)
                if k % 3 == 0:
                    show = plus(r, show_of(r, some_row(chance, r, 20)), show_of(r, some_row(chance, r, 20)))
                if k % 3 == 1:
                    show = plus(r, show_of(r, some_row(chance, r, 20)), (((2,) * r, 1, chance.choice((1, -1))),))
                if not rights(r, show):
                    self.check_balanced(r, show)
                    continue
                self.check_barred(r, show)
                kinds[judge_show(r, show)[0]] += 1
        self.assertGreater(min(kinds.values()), 10)

    def test_great_numbers(self):
        """What is told of a show without building a row for it also holds for great numbers far away."""
        for r in range(1, 5):
            far = (LONG - 1,) * r
            self.tells(True, show_holds, r, ((far, r, LONG),), ("room", far))
            self.tells(True, show_holds, r, ((far, r, LONG),), ("room", ahead_of(far, r)))
            self.tells(False, show_holds, r, ((far, r, LONG),), ("room", (0,) * r))
            self.tells(False, is_balanced, r, ((far, r, LONG),))
            self.check_barred(r, ((far, r, LONG),))
        self.tells(True, is_balanced, 2, times(2, LONG, moved(2, SQUARE, (LONG - 1, -LONG))))
        self.tells(True, is_balanced, 3, plus(3, show_of(3, (1, 2, 3)), times(3, -LONG, moved(3, show_of(3, (1, 3, -1, -3)), (5, LONG, 7)))))
        self.tells(False, show_holds, 2, times(2, LONG, SQUARE), ("row", (1, 2, -1, -2)))

    def test_is_balanced_any_value(self):
        for r in range(1, 5):
            for thing in no_shows(r):
                self.tells(False, is_balanced, r, thing)
            self.tells(True, is_balanced, r, ())
            self.tells(True, is_balanced, r, (((0,) * r, r, 1),))
            self.tells(False, is_balanced, r, (((0,) * r, r, -1),))
            self.tells(False, is_balanced, r, [((0,) * r, r, 1)])
            self.tells(False, is_balanced, r, (((0,) * r, r, True),))
            self.tells(r == 2, is_balanced, r, SQUARE)

    def test_any_certificate(self):
        chance = Random(75)
        shows = ((), SQUARE, show_of(2, (1, 1, 2)), (((3, 1), 1, 1),), (((0, 0), 1, 1), ((0, 0), 2, 1)), (((0, 0), 1, 2),),
                 show_of(2, (2, 1, 2)) + (((5, 5), 1, 1),))
        for show in shows:
            self.assertTrue(is_show(2, show))
            wrong = NOTHING + ("row", ("row",), ("room",), ("rooms",), ("room", None), ("rooms", None, None), ("rooms", [], {}), ("row", None),
                               ({}, ()), ([], []), ("row", [()]), ("room", ()), ("rooms", (), ()))
            for thing in wrong:
                self.assertIs(show_holds(2, show, thing), show == () and thing == ("row", ()))
            certificates = rights(2, show) or [judge_show(2, show)]
            for certificate in certificates + [("row", (1, 2, -1, -2)), ("room", (3, 1)), ("rooms", (0, 1), (1, 0))]:
                for thing in near_misses(chance, certificate, 300):
                    right = repr(thing) in [repr(one) for one in rights(2, show)]
                    if type(thing) is tuple and len(thing) == 2 and thing[0] == "row":
                        right = is_row(2, thing[1]) and crossed(2, thing[1]) == show
                    self.assertIs(show_holds(2, show, thing), right, (show, thing))

    def test_no_shows(self):
        for r in range(1, 5):
            for thing in no_shows(r):
                for function, more in ((judge_show, ()), (row_for, ()), (pieces_of, ()), (show_holds, (("row", ()),)), (show_holds, (thing,))):
                    self.refuses(BadShow(thing), function, r, thing, *more)

    def test_calls(self):
        self.tells(("room", (3,)), judge_show, 1, (((3,), 1, 1),))
        self.refuses(NotBalanced(("room", (3,))), row_for, 1, (((3,), 1, 1),))
        self.tells((1,), row_for, 1, (((0,), 1, 1),))
        self.tells(("row", (1, 1)), judge_show, 1, (((0,), 1, 1), ((1,), 1, 1)))
        self.tells(True, show_holds, 1, (((0,), 1, 1), ((1,), 1, 1)), ("row", (1, -1, 1, 1)))
        self.tells(True, is_balanced, 2, SQUARE)


class Pieces(Case):

    def by_joining(self, r, show):
        """The pieces, by joining two lots as long as some passage lies between them."""
        lots = []
        for room, i, _ in show:
            pair = {room, ahead_of(room, i)}
            touched = [lot for lot in lots if lot & pair]
            lots = [lot for lot in lots if not lot & pair] + [pair.union(*touched)]
        return tuple(sorted(tuple(sorted(lot)) for lot in lots))

    def test_plain(self):
        self.tells((), pieces_of, 1, ())
        self.tells((((0,), (1,)),), pieces_of, 1, (((0,), 1, 1),))
        self.tells((((0,), (1,), (2,)),), pieces_of, 1, (((0,), 1, 1), ((1,), 1, -5)))
        self.tells((((0,), (1,)), ((2,), (3,))), pieces_of, 1, (((0,), 1, 1), ((2,), 1, -5)))
        self.tells((((0, 0), (0, 1)), ((1, 0), (1, 1))), pieces_of, 2, (((0, 0), 2, 1), ((1, 0), 2, 1)))
        self.tells((((0, 0), (0, 1), (1, 0), (1, 1)),), pieces_of, 2, SQUARE)
        self.tells((((0, 0), (0, 1), (1, 0), (1, 1)), ((2, 0), (2, 1), (3, 0), (3, 1))), pieces_of, 2, plus(2, SQUARE, moved(2, SQUARE, (2, 0))))

    def test_touching_in_one_room(self):
        show = plus(2, SQUARE, moved(2, SQUARE, (1, 1)))
        rooms = tuple(sorted({(a, b) for a in (0, 1) for b in (0, 1)} | {(a, b) for a in (1, 2) for b in (1, 2)}))
        self.tells((rooms,), pieces_of, 2, show)
        self.tells((rooms,), pieces_of, 2, plus(2, SQUARE, times(2, -7, moved(2, SQUARE, (1, 1)))))

    def test_lines(self):
        for r in range(1, 5):
            line = tuple((tuple(k if j == r else -7 for j in range(1, r + 1)), r, (-1) ** k * LONG) for k in range(300))
            rooms = tuple(tuple(k if j == r else -7 for j in range(1, r + 1)) for k in range(301))
            self.tells((rooms,), pieces_of, r, line)
            self.tells((rooms[:150], rooms[150:]), pieces_of, r, line[:149] + line[150:])
            self.tells((rooms[1:],), pieces_of, r, line[1:])
            self.tells(tuple(rooms[k:k + 2] for k in range(0, 300, 2)), pieces_of, r, line[::2])

    def test_far_pieces(self):
        show = (((-LONG, 0), 1, LONG), ((-LONG, 1), 1, -LONG), ((0, LONG), 2, 1), ((LONG, LONG), 1, 1))
        self.tells((((-LONG, 0), (1 - LONG, 0)), ((-LONG, 1), (1 - LONG, 1)), ((0, LONG), (0, LONG + 1)), ((LONG, LONG), (LONG + 1, LONG))),
                   pieces_of, 2, show)

    def test_many(self):
        chance = Random(76)
        for r in range(1, 5):
            for size in (1, 2, 4, 9):
                for _ in range(20):
                    show = some_show(chance, r, 60, size)
                    told = pieces_of(r, show)
                    self.same(told, self.by_joining(r, show))
                    self.tells(told, pieces_of, r, times(r, LONG, show))
                    self.assertTrue(all({room for room, _ in left_over(r, show)} <= {room for piece in told for room in piece} for _ in "1"))


if __name__ == "__main__":
    unittest.main()
