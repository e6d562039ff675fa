"""Part 5, [5.3]: heights of closed shows of two directions."""

import unittest
from random import Random

from stilewalks.errors import BadHeights, BadRoom, BadShow, NotClosed
from stilewalks.heights import area_of, heights_of, is_heights, show_of_heights, square_row
from stilewalks.scripts import is_row, row_end
from stilewalks.shows import is_show, left_over, moved, plus, show_of, times
from tests.helping import NOTHING, Case, listed
from tests.test_built import SQUARE
from tests.test_rows import some_row
from tests.test_shows import crossed, no_shows, some_show

FAR = 10 ** 40
GREAT = 10 ** 99 - 1


def some_heights(chance, many, size, great):
    rooms = {(chance.randint(-size, size), chance.randint(-size, size)) for _ in range(many)}
    return tuple((room, chance.choice((1, -1)) * chance.randint(1, great)) for room in sorted(rooms))


def summed_squares(heights):
    """The show of heights, by its definition."""
    show = ()
    for room, number in heights:
        show = plus(2, show, times(2, number, moved(2, SQUARE, room)))
    return show


def closed_row(chance, most):
    row = some_row(chance, 2, most // 2)
    return row + tuple(-step for step in sorted(row, key=lambda step: (chance.random(), step)))


def walked_area(row):
    """The area of a closed row: each step ahead or back in the first direction counts the rooms below it."""
    total = level = 0
    for step in row:
        if abs(step) == 2:
            level += step // 2
        else:
            total -= step * level
    return total


# Turns and mirrors of the plane: what steps 1 and 2 become.
TURNS = [(a, b) for a, b in ((1, 2), (1, -2), (-1, 2), (-1, -2), (2, 1), (2, -1), (-2, 1), (-2, -1))]


class Heights(Case):

    def check(self, heights):
        """Heights led to a show and back."""
        self.assertIs(is_heights(heights), True)
        show = show_of_heights(heights)
        self.assertIs(is_show(2, show), True)
        self.same(left_over(2, show), ())
        self.same(heights_of(show), heights)
        self.same(area_of(show), sum(number for _, number in heights))
        return show

    def test_plain(self):
        self.tells((), heights_of, ())
        self.tells((), show_of_heights, ())
        self.tells(0, area_of, ())
        self.tells((((0, 0), 1),), heights_of, SQUARE)
        self.tells((((0, 0), -3),), heights_of, times(2, -3, SQUARE))
        self.tells(-3, area_of, times(2, -3, SQUARE))
        self.tells(SQUARE, show_of_heights, (((0, 0), 1),))
        self.tells((((0, 0), 1), ((0, 1), 1)), heights_of, show_of(2, (1, 2, 2, -1, -2, -2)))
        self.tells((((0, 0), 1), ((1, 0), -1)), heights_of, plus(2, SQUARE, times(2, -1, moved(2, SQUARE, (1, 0)))))
        self.tells(0, area_of, plus(2, SQUARE, times(2, -1, moved(2, SQUARE, (1, 0)))))

    def test_there_and_back(self):
        chance = Random(81)
        for size in (0, 1, 2, 5, 30, FAR):
            for great in (1, 3, GREAT):
                for many in (1, 2, 5, 40, 200):
                    heights = some_heights(chance, many, size, great)
                    show = self.check(heights)
                    if many < 50:
                        self.same(show, summed_squares(heights))

    def test_columns_and_rows(self):
        """Columns and rows with holes, and with rooms far apart."""
        for items in (range(50), range(0, 100, 2), (0, 1, 2, 4, 5, 9), (-FAR, -1, 0, FAR, FAR + 1, 3 * FAR), (GREAT - 1, -GREAT, 7)):
            for numbers in ((1,), (-GREAT,), (1, -1), (GREAT, GREAT, -GREAT), (2, 2, 3)):
                column = tuple(((5, item), numbers[k % len(numbers)]) for k, item in enumerate(sorted(items)))
                row = tuple(((item, 5), numbers[k % len(numbers)]) for k, item in enumerate(sorted(items)))
                slope = tuple(((item, -item), numbers[k % len(numbers)]) for k, item in enumerate(sorted(items)))
                both = tuple(sorted(dict(column + row + slope).items()))
                for heights in (column, row, slope, both):
                    self.same(self.check(heights), summed_squares(heights))

    def test_ring(self):
        ring = tuple(((a, b), 1) for a in range(20) for b in range(20) if a in (0, 19) or b in (0, 19))
        self.check(ring)
        full = tuple(((a, b), GREAT) for a in range(14) for b in range(14))
        self.assertEqual(len(self.check(full)), 4 * 14)

    def test_closed_rows(self):
        chance = Random(82)
        for most in (4, 8, 20, 60):
            for _ in range(40):
                row = closed_row(chance, most)
                show = show_of(2, row)
                heights = heights_of(show)
                self.assertIs(is_heights(heights), True)
                self.same(show_of_heights(heights), show)
                self.same(summed_squares(heights), show)
                self.same(area_of(show), walked_area(row))
                self.tells(walked_area(row), area_of, show)
                room = (chance.randint(-FAR, FAR), chance.randint(-FAR, FAR))
                there = tuple(((a + room[0], b + room[1]), number) for (a, b), number in heights)
                self.same(heights_of(moved(2, show, room)), there)
                self.same(area_of(times(2, -GREAT, moved(2, show, room))), -GREAT * walked_area(row))

    def test_turned_and_mirrored(self):
        chance = Random(83)
        for _ in range(30):
            row = closed_row(chance, 40)
            heights, area = heights_of(show_of(2, row)), area_of(show_of(2, row))
            for one, other in TURNS:
                turned = tuple((1 if step > 0 else -1) * (one if abs(step) == 1 else other) for step in row)
                ways = [tuple((way > 0) - (way < 0) if abs(way) == k else 0 for k in (1, 2)) for way in (one, other)]
                sign = ways[0][0] * ways[1][1] - ways[0][1] * ways[1][0]
                self.same(area_of(show_of(2, turned)), sign * area)
                found = []
                for (a, b), number in heights:
                    # The middle of the square is turned; the square is told by its least corner.
                    corner = tuple((a * ways[0][k] + b * ways[1][k]) + min(0, ways[0][k] + ways[1][k]) for k in (0, 1))
                    found.append((corner, sign * number))
                self.same(heights_of(show_of(2, turned)), tuple(sorted(found)))

    def test_not_closed(self):
        chance = Random(84)
        for row in ((1,), (1, 2), (-2,), (1, 2, -1), (1, 2, -1, -2, 2)):
            show = show_of(2, row)
            for function in (heights_of, area_of):
                self.refuses(NotClosed(show), function, show)
        for show in ((((0, 0), 1, 2),), (((5, 5), 1, 1),), (((0, 0), 1, 1), ((0, 1), 1, -1)), SQUARE[1:], SQUARE[:3],
                     (((0, 0), 2, 1), ((1, 0), 2, -1)), (((0, 0), 1, 1), ((0, FAR), 1, -1)), (((0, 0), 1, 1), ((0, FAR), 1, -1), ((0, FAR), 2, 1))):
            for function in (heights_of, area_of):
                self.refuses(NotClosed(show), function, show)
        for _ in range(100):
            show = some_show(chance, 2, 20, 2)
            if left_over(2, show):
                self.refuses(NotClosed(show), heights_of, show)
                self.refuses(NotClosed(show), area_of, show)

    def test_no_shows(self):
        for thing in no_shows(2) + [show_of(1, (1, -1, 1)), show_of(3, (1, 2, -1, -2)), show_of(1, (1,)), show_of(4, (4,)), (((0, 0, 0), 1, 1),)]:
            for function in (heights_of, area_of):
                self.refuses(BadShow(thing), function, thing)

    def test_no_heights(self):
        pair = ((0, 0), 1)
        wrong = NOTHING + (pair, [pair], (list(pair),), (([0, 0], 1),), (pair, pair), (pair, ((0, 0), 2)), (((1, 0), 1), pair), (((0, 1), 1), pair),
                           (((0, 0), 0),), (((0, 0), True),), (((0, 0), False),), (((0, 0), "1"),), (((0, 0), None),), (((0, 0), 1, 1),),
                           (((0, 0),),), (((0,), 1),), (((0, 0, 0), 1),), (((0, True), 1),), (((False, 0), 1),), (((0, None), 1),), (pair, None),
                           (pair, ((1, 0), 0)), (pair, ((1, 0), 1), ((0, 5), 1)), ((0, 0), 1), ((None, 1),), (((0, 0), (1,)),), {(0, 0): 1}, SQUARE,
                           (((0, 0), 5), ((0, 0), -5)), (((1, 0), -5), ((0, 0), 5)))
        for thing in wrong:
            self.tells(False, is_heights, thing)
            self.refuses(BadHeights(thing), show_of_heights, thing)
        heights = (((-3, 2), 5), ((0, 0), -1), ((0, 1), 1))
        self.tells(True, is_heights, heights)
        self.tells(True, is_heights, ())
        for thing in listed(heights):
            self.tells(False, is_heights, thing)
            self.refuses(BadHeights(thing), show_of_heights, thing)


class Squares(Case):

    def test_squares(self):
        for a in range(-30, 31):
            for b in (-30, -17, -2, -1, 0, 1, 2, 13, 30, a, -a):
                row = square_row((a, b))
                self.assertTrue(is_row(2, row))
                self.same(row_end(2, row), (0, 0))
                self.same(crossed(2, row) if len(row) < 20 else show_of(2, row), moved(2, SQUARE, (a, b)))
                self.same(heights_of(show_of(2, row)), (((a, b), 1),))
                self.same(square_row((a, b)), row)
        self.told(square_row, (3, -2))

    def test_no_rooms(self):
        for thing in NOTHING + ((), (0,), (0, 0, 0), (0, True), (False, 0), (0, None), (0, "0"), [0, 0], ((0, 0),), {0: 0}, 1, "00"):
            self.refuses(BadRoom(thing), square_row, thing)


if __name__ == "__main__":
    unittest.main()
