"""Part 4, [4.2] and [4.3]: rolled halls, odd widths, and the least hall that parts two rows."""

import unittest
from random import Random

from stilewalks.alike import alike_in
from stilewalks.errors import BadHall, BadRow, BadScript
from stilewalks.rolled import is_hall, odd_widths, parting_hall, rolled_show
from stilewalks.scripts import end_of, length_of, row_of
from tests.helping import NOTHING, Case
from tests.test_alike import LOOP, OTHER_LOOP, halls
from tests.test_quotients import far_script
from tests.test_rows import some_row
from tests.test_scripts import FAR, no_scripts, some_script

NO_HALLS = NOTHING + ((), (0,), (1,), (5,), (-1, 0), (-1, 2), (0, 1), (5, 1), (3, -1), (3, -2), (0, -1), (True, 0), (False, 0),
                      (3, True), (3, False), (0, True), (True, True), (0, 0, 0), (3, 2, 1), [0, 0], [3, 2], [3, 0], (None, 0), (3, None),
                      ("3", 2), (3, "2"), ((3,), 2), (3, (2,)), (-10 ** 39, 0), (0, -10 ** 9), {3: 2}, "32")


def walked_in(r, row, hall):
    """The room and the stiles of a rolled hall behind a row, by walking there."""
    width, figures = hall
    numbers, room = {}, (0,) * r
    for step in row:
        ahead = tuple((item + (step > 0) - (step < 0)) % width if k == abs(step) else item for k, item in enumerate(room, 1))
        passage = (room, step) if step > 0 else (ahead, -step)
        numbers[passage] = numbers.get(passage, 0) + (1 if step > 0 else -1)
        room = ahead
    return room, shown(numbers, figures)


def shown(numbers, figures):
    if figures:
        numbers = {passage: number % figures for passage, number in numbers.items()}
    return tuple((room, i, numbers[room, i]) for room, i in sorted(numbers) if numbers[room, i])


def rolled_numbers(r, script, width):
    """The same for long scripts, repeats by halves: a dict, and the room."""
    if isinstance(script, int):
        room, numbers = walked_in(r, (script,), (width, 0))
        return {(place, i): number for place, i, number in numbers}, room
    word, parts = script[0], script[1:]
    if word == "back":
        numbers, end = rolled_numbers(r, parts[0], width)
        back = tuple(-item % width for item in end)
        return summed({}, numbers, back, width, -1), back
    if word == "around":
        return rolled_numbers(r, ("row", parts[0], parts[1], ("back", parts[0])), width)
    if word == "again":
        n, whole = parts[0], rolled_numbers(r, parts[1], width)
        total = ({}, (0,) * r)
        for digit in bin(n)[2:]:
            total = behind(total, total, width)
            if digit == "1":
                total = behind(total, whole, width)
        return total
    total = ({}, (0,) * r)
    for part in parts:
        total = behind(total, rolled_numbers(r, part, width), width)
    return total


def summed(numbers, more, room, width, sign):
    total = dict(numbers)
    for (place, i), number in more.items():
        passage = (tuple((a + b) % width for a, b in zip(place, room)), i)
        total[passage] = total.get(passage, 0) + sign * number
    return total


def behind(one, other, width):
    return summed(one[0], other[0], one[1], width, 1), tuple((a + b) % width for a, b in zip(one[1], other[1]))


class Halls(Case):

    def test_halls(self):
        for width in (0, 1, 2, 3, 15, 250):
            for figures in (0, 2, 3, 10, 10 ** 9):
                self.tells(True, is_hall, (width, figures))
            for figures in (1, -1, -2, True, False, None, "0", (0,)):
                self.tells(False, is_hall, (width, figures))
        for thing in NO_HALLS:
            self.tells(False, is_hall, thing)

    def test_no_halls(self):
        for r in range(1, 5):
            for thing in NO_HALLS + ((0, 0), (0, 2), (0, 10 ** 9)):
                self.refuses(BadHall(thing), rolled_show, r, ("again", FAR, 1), thing)
            for thing in no_scripts(r)[::4]:
                self.refuses(BadScript(thing), rolled_show, r, thing, (3, 2))
                self.refuses(BadScript(thing), rolled_show, r, thing, (0, 0))
                self.refuses(BadScript(thing), rolled_show, r, thing, thing)


class RolledShows(Case):

    def check(self, r, script, hall, right):
        told = rolled_show(r, script, hall)
        self.same(told, right)
        self.assertEqual(list(told), sorted(told))
        for room, i, number in told:
            self.assertTrue(all(0 <= item < hall[0] for item in room) and number)
            self.assertTrue(hall[1] == 0 or 0 < number < hall[1])

    def test_short_scripts(self):
        chance = Random(61)
        for r in range(1, 5):
            found = 0
            while found < 40:
                script = some_script(chance, r, 4)
                if length_of(r, script) > 400 or repr(script).count("again") > 6:
                    continue
                found += 1
                row = row_of(r, script)
                for hall in halls(r):
                    if hall[0]:
                        self.check(r, script, hall, walked_in(r, row, hall)[1])

    def test_far_scripts(self):
        chance = Random(62)
        for r in range(1, 5):
            found = 0
            while found < 15:
                script = far_script(chance, r, 4)
                if not 1 <= repr(script).count("again") <= 4:
                    continue
                found += 1
                for width in (1, 2, 3, 4, 6, 15, 60, 250):
                    if width ** r <= 250 and (width < 100 or found < 4):
                        numbers, end = rolled_numbers(r, script, width)
                        self.same(end, tuple(item % width for item in end_of(r, script)))
                        for figures in (0, 2, 10 ** 9):
                            self.check(r, script, (width, figures), shown(numbers, figures))

    def test_plain(self):
        self.tells((((0,), 1, FAR),), rolled_show, 1, ("again", FAR, 1), (1, 0))
        self.tells((((0,), 1, -FAR),), rolled_show, 1, ("again", FAR, -1), (1, 0))
        self.tells((((0,), 1, FAR % 7),), rolled_show, 1, ("again", FAR, 1), (1, 7))
        self.tells((((0,), 1, 10 ** 9 - 1),), rolled_show, 1, -1, (1, 10 ** 9))
        self.tells((((2,), 1, -1),), rolled_show, 1, -1, (3, 0))
        self.tells((), rolled_show, 1, ("again", FAR, 1), (1, 10))
        self.tells((), rolled_show, 1, ("again", FAR, 1), (250, 2))
        self.tells(tuple(((k,), 1, FAR // 250) for k in range(250)), rolled_show, 1, ("again", FAR, 1), (250, 0))
        self.tells(tuple(((k,), 1, FAR // 250 + (k < 3)) for k in range(250)), rolled_show, 1, ("again", FAR + 3, 1), (250, 0))
        self.tells((), rolled_show, 4, ("row",), (3, 0))
        self.tells((), rolled_show, 2, LOOP, (1, 0))
        self.tells((((0, 0), 1, 1), ((0, 0), 2, -1), ((0, 1), 1, -1), ((1, 0), 2, 1)), rolled_show, 2, LOOP, (2, 0))
        self.tells((((0, 0), 1, 1), ((0, 0), 2, 1), ((0, 1), 1, 1), ((1, 0), 2, 1)), rolled_show, 2, LOOP, (2, 2))
        # Rooms that differ by the width in any items are one.
        self.tells((((0, 2), 1, 1), ((0, 2), 2, -1), ((1, 2), 2, 1)), rolled_show, 2,
                   ("around", ("row", ("again", FAR * 3, 1), -2), 1), (3, 0))

    def test_greatest(self):
        nest = ("again", FAR - 1, ("row", 1, ("again", FAR, ("row", 1, 1, ("again", FAR - 3, 1)))))
        for figures in (0, 10 ** 9):
            self.check(1, nest, (250, figures), shown(rolled_numbers(1, nest, 250)[0], figures))
        nest = ("again", FAR - 1, ("row", 3, ("again", FAR, ("row", 2, 1, ("again", FAR - 3, 1)))))
        self.check(3, nest, (6, 0), shown(rolled_numbers(3, nest, 6)[0], 0))


class Widths(Case):

    def widths_by_walking(self, r, one, other, figures):
        """The odd widths and the rest, looking at all widths up to one beyond which nothing changes."""
        def alike(width):
            return walked_in(r, one, (width, figures)) == walked_in(r, other, (width, figures))
        many = len(one) + len(other) + 3
        found = [alike(width) for width in range(1, many + 1)]
        # Rooms of the two rows differ by less than so many steps.
        self.assertEqual(found[-1], alike(1000))
        return tuple(k for k, thing in enumerate(found, 1) if thing != found[-1]), found[-1]

    def parting_by_walking(self, r, one, other):
        for width in range(1, len(one) + len(other) + 3):
            if walked_in(r, one, (width, 0)) != walked_in(r, other, (width, 0)):
                figures = 2
                while walked_in(r, one, (width, figures)) == walked_in(r, other, (width, figures)):
                    figures += 1
                return width, figures
        return None

    def check(self, r, one, other):
        for figures in (0, 2, 3, 10 ** 9):
            right = self.widths_by_walking(r, one, other, figures)
            self.same(odd_widths(r, one, other, figures), right)
            self.same(odd_widths(r, other, one, figures), right)
        right = self.parting_by_walking(r, one, other)
        self.same(parting_hall(r, one, other), right)
        self.same(parting_hall(r, other, one), right)
        if right is None:
            self.same(odd_widths(r, one, other, 0), ((), True))
        elif right[0] ** r <= 250:
            self.assertIs(alike_in(r, ("row",) + one, ("row",) + other, right), False)

    def test_many_rows(self):
        chance = Random(63)
        for r in range(1, 5):
            for _ in range(40):
                one = some_row(chance, r, 30)
                other = chance.choice((some_row(chance, r, 30), one[::-1], one[3:] + one[:3], (1, 2, -1, -2)[:r] + one[4:], one))
                if r > 1 and chance.random() < 0.3:
                    one, other = (LOOP[1:] + OTHER_LOOP[1:], OTHER_LOOP[1:] + LOOP[1:])
                self.check(r, one, other)

    def test_far_rows(self):
        for r in range(1, 5):
            for k in (1, 2, 7, 15, 30):
                self.check(r, (1,) * k, ())
                self.check(r, (1,) * k, (-1,) * k)
                self.check(r, (r,) * k + (-r,) * (30 - k), ())
        for k in (1, 4, 7, 13):
            ahead, back = (1,) * k, (-1,) * k
            # A loop far away, and one that is moved by k or 2k rooms: one in halls whose width divides the way.
            self.check(2, ahead + (1, 2, -1, -2) + back, (1, 2, -1, -2))
            self.check(2, ahead + (1, 2, -1, -2) + back, back + (1, 2, -1, -2) + ahead)
            self.check(2, ahead + (2, 1, -2, -1) + back, back + (1, 2, -1, -2) + ahead)
            self.check(3, (3,) * k + (1, 2, -1, -2) + (-3,) * k, (1, 2, -1, -2))

    def test_great_least_halls(self):
        self.tells((1, 2), parting_hall, 1, (1,), ())
        self.tells((1, 3), parting_hall, 1, (1, 1), ())
        self.tells((2, 3), parting_hall, 2, (1, 2, -1, -2), (2, 1, -2, -1))
        self.tells((2, 2), parting_hall, 2, (1, 2, -1, -2), ())
        for k in (2, 6, 12):
            one = (1,) * k + (1, 2, -1, -2) + (-1,) * k
            self.tells(next((n, 2) for n in range(2, 40) if k % n), parting_hall, 2, one, (1, 2, -1, -2))
            self.tells((tuple(n for n in range(1, k + 1) if k % n == 0), False), odd_widths, 2, one, (1, 2, -1, -2), 0)
        # A line of 24 stiles shows even numbers if its width divides 12.
        self.tells(((1, 2, 3, 4, 6, 12), False), odd_widths, 1, (1,) * 12, (-1,) * 12, 2)
        self.tells(((), False), odd_widths, 1, (1,) * 12, (-1,) * 12, 0)
        self.tells((1, 5), parting_hall, 1, (1,) * 12, (-1,) * 12)
        self.tells((1, 7), parting_hall, 1, (1,) * 30, (-1,) * 30)

    def test_figures(self):
        loop = (1, 2, -1, -2)
        for k in (2, 3, 4, 5, 6, 7):
            self.check(2, loop * k, ())
            for figures in (0, 2, 3, 5, 10 ** 9):
                alike = figures != 0 and k % figures == 0
                self.tells(((), True) if alike else ((1,), False), odd_widths, 2, loop * k, (), figures)
            self.tells((2, next(p for p in range(2, 9) if k % p)), parting_hall, 2, loop * k, ())

    def test_alike_rows(self):
        for one, other in (((), ()), ((1, -1), ()), ((1, 2, -1, -2, -1, 2, 1, -2), (-1, 2, 1, -2, 1, 2, -1, -2))):
            self.tells(None, parting_hall, 2, one, other)
            for figures in (0, 2, 10 ** 9):
                self.tells(((), True), odd_widths, 2, one, other, figures)

    def test_no_rows(self):
        for r in range(1, 5):
            for thing in NOTHING + ((r + 1,), (0,), (-r - 1,), (True,), [1], 1):
                self.refuses(BadRow(thing), parting_hall, r, thing, ())
                self.refuses(BadRow(thing), parting_hall, r, (1,), thing)
                self.refuses(BadRow(thing), parting_hall, r, thing, [])
                self.refuses(BadRow(thing), odd_widths, r, thing, (1, -1), 0)
                self.refuses(BadRow(thing), odd_widths, r, (), thing, 2)
                self.refuses(BadRow(thing), odd_widths, r, thing, (r + 1,), 2)


if __name__ == "__main__":
    unittest.main()
