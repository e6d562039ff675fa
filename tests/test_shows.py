"""Part 2, [2.1] to [2.3]: passages, shows, and what they leave over."""

import unittest
from random import Random

from stilewalks.errors import BadPassage, BadRoom, BadRow, BadShow
from stilewalks.scripts import row_end, undone_row
from stilewalks.shows import is_show, left_over, moved, number_in, plus, show_of, times
from tests.helping import NOTHING, Case
from tests.test_rows import some_row

LONG = 10 ** 100 - 1


def some_show(chance, r, most, size):
    passages = {(tuple(chance.randint(-size, size) for _ in range(r)), chance.randint(1, r))
                for _ in range(chance.randint(0, most))}
    return tuple((room, i, chance.choice((-3, -2, -1, 1, 2, 3))) for room, i in sorted(passages))


def ahead_of(room, i):
    return tuple(item + (k == i - 1) for k, item in enumerate(room))


def crossed(r, row):
    """The show of a row: how often it goes through each passage ahead, less how often it goes back."""
    rooms = [tuple(row[:k].count(i) - row[:k].count(-i) for i in range(1, r + 1)) for k in range(len(row) + 1)]
    ahead = [(rooms[k], row[k]) for k in range(len(row)) if row[k] > 0]
    back = [(rooms[k + 1], -row[k]) for k in range(len(row)) if row[k] < 0]
    counts = [(room, i, ahead.count((room, i)) - back.count((room, i))) for room, i in sorted(set(ahead + back))]
    return tuple(triple for triple in counts if triple[2])


def over(r, show):
    """What a show leaves over, room by room."""
    numbers = {(room, i): number for room, i, number in show}
    found = []
    for room in sorted({room for room, _, _ in show} | {ahead_of(room, i) for room, i, _ in show}):
        rest = sum(numbers.get((room, i), 0) for i in range(1, r + 1))
        for i in range(1, r + 1):
            behind = tuple(item - (k == i - 1) for k, item in enumerate(room))
            rest -= numbers.get((behind, i), 0)
        if rest:
            found.append((room, rest))
    return tuple(found)


def no_shows(r):
    zero, one = (0,) * r, (1,) + (0,) * (r - 1)
    wrong = list(NOTHING)
    wrong += [1, (1,), zero, ("row",), (zero, 1, 1), [(zero, 1, 1)], ([zero, 1, 1],), (([0] * r, 1, 1),), ((zero, 1),),
              ((zero, 1, 1, 1),), ((zero,),), (zero,), ((0, 1, 1),), ((None, 1, 1),), (((), 1, 1),), (("", 1, 1),)]
    wrong += [((zero + (0,), 1, 1),), ((zero[1:], 1, 1),), ((zero[1:] + (True,), 1, 1),), ((zero[1:] + (None,), 1, 1),)]
    wrong += [((zero, i, 1),) for i in (0, -1, -r, r + 1, 10 ** 30, True, None, "1", (1,), [1])]
    wrong += [((zero, 1, number),) for number in (0, True, False, None, "1", (1,), [1])]
    wrong += [((zero, 1, 1), (zero, 1, 1)), ((zero, 1, 1), (zero, 1, 2)), ((zero, 1, 2), (zero, 1, 1)),
              ((one, 1, 1), (zero, 1, 1)), ((zero, r, 1), (zero, 1, 1)), ((zero, 1, 1), (one, 1, 1), (one, 1, -1)),
              ((zero, 1, 1), (one, 1, 0)), ((zero, 1, 1), (one, 1, 1), (zero, 1, 1)), ((zero, 1, 1), None),
              ((zero, 1, 1), ()), ((one, 1, 1), (zero, 1, 2)), ((zero, 1, 1), [one, 1, 1])]
    # The number does not put a passage ahead of another one.
    wrong += [((one, 1, -5), (zero, 1, 5)), ((one, 1, 5), (zero, 1, -5))]
    if r > 1:
        wrong += [((zero, 2, 1), (zero, 1, 2)), ((zero, 2, 1), (zero, 2, 2))]
    return wrong


class Shows(Case):

    def test_shows(self):
        for r in range(1, 5):
            zero, one = (0,) * r, (1,) + (0,) * (r - 1)
            self.tells(True, is_show, r, ())
            for i in range(1, 6):
                self.tells(i <= r, is_show, r, ((zero, i, 1),))
            for show in (((zero, 1, 5), (one, 1, -5)), ((zero, 1, -5), (one, 1, 5)), (((-LONG,) * r, r, LONG),),
                         ((zero, 1, 1), (one, 1, 1)), (((-1,) * r, 1, 1), (zero, 1, 1))):
                for q in range(1, 5):
                    self.tells(q == r, is_show, q, show)
            every = tuple((zero, i, -i) for i in range(1, r + 1))
            self.tells(True, is_show, r, every)
            self.tells(r == 1, is_show, r, every[::-1])

    def test_no_shows(self):
        for r in range(1, 5):
            for thing in no_shows(r):
                self.tells(False, is_show, r, thing)
                self.refuses(BadShow(thing), left_over, r, thing)
                self.refuses(BadShow(thing), times, r, 2, thing)
                self.refuses(BadShow(thing), times, r, 0, thing)
                self.refuses(BadShow(thing), moved, r, thing, (0,) * r)
                self.refuses(BadShow(thing), number_in, r, thing, (0,) * r, 1)
                self.refuses(BadShow(thing), plus, r, thing, ())
                self.refuses(BadShow(thing), plus, r, (), thing)

    def test_of_other_numbers_of_directions(self):
        for r in range(1, 5):
            for q in range(1, 5):
                show = (((0,) * q, 1, 1), ((1,) * q, q, 1))
                if q != r:
                    self.refuses(BadShow(show), moved, r, show, (0,) * r)
                    self.refuses(BadShow(show), plus, r, (), show)
                    self.refuses(BadShow(show), times, r, 1, show)
                    self.refuses(BadShow(show), left_over, r, show)
                    self.refuses(BadRoom((0,) * q), moved, r, (), (0,) * q)
                    self.refuses(BadPassage(((0,) * q, 1)), number_in, r, (), (0,) * q, 1)

    def test_show_of(self):
        for row, show in (
            ((), ()), ((1,), (((0, 0), 1, 1),)), ((-1,), (((-1, 0), 1, -1),)), ((-2,), (((0, -1), 2, -1),)),
            ((1, -1), ()), ((-1, 1), ()), ((1, 1), (((0, 0), 1, 1), ((1, 0), 1, 1))),
            ((1, 1, 2), (((0, 0), 1, 1), ((1, 0), 1, 1), ((2, 0), 2, 1))), ((1, -1, 2), (((0, 0), 2, 1),)),
            ((2, 1), (((0, 0), 2, 1), ((0, 1), 1, 1))), ((1, 2), (((0, 0), 1, 1), ((1, 0), 2, 1))),
            ((1, 2, -1, -2), (((0, 0), 1, 1), ((0, 0), 2, -1), ((0, 1), 1, -1), ((1, 0), 2, 1))),
            ((1, 2, -1, -2) * 15, (((0, 0), 1, 15), ((0, 0), 2, -15), ((0, 1), 1, -15), ((1, 0), 2, 15))),
        ):
            self.tells(show, show_of, 2, row)
        self.tells((((0, 0, 0, -1), 4, -1), ((0, 0, 0, -1), 3, 1))[::-1], show_of, 4, (-4, 3))

    def test_show_of_no_row(self):
        for r in range(1, 5):
            for thing in NOTHING + ((r + 1,), (-r - 1,), (0,), (True,), [1], 1, ("row",)):
                self.refuses(BadRow(thing), show_of, r, thing)

    def test_many_rows(self):
        chance = Random(21)
        for r in range(1, 5):
            for _ in range(40):
                one, other = some_row(chance, r, 30), some_row(chance, r, 30)
                show, end = self.told(show_of, r, one), row_end(r, one)
                self.assertTrue(is_show(r, show))
                self.same(show, crossed(r, one))
                both = plus(r, show, moved(r, show_of(r, other), end))
                self.tells(both, show_of, r, one + other)
                turned = moved(r, times(r, -1, show), tuple(-item for item in end))
                self.tells(turned, show_of, r, undone_row(r, one))
                self.tells((), show_of, r, one + undone_row(r, one))

    def test_moved(self):
        show = (((0, 0), 1, 2), ((0, 0), 2, -1), ((1, -5), 1, 7))
        self.tells((((3, -4), 1, 2), ((3, -4), 2, -1), ((4, -9), 1, 7)), moved, 2, show, (3, -4))
        self.tells(show, moved, 2, show, (0, 0))
        self.tells((), moved, 2, (), (3, 4))
        self.tells((((2 * LONG,), 1, -LONG),), moved, 1, (((LONG,), 1, -LONG),), (LONG,))

    def test_moved_by_no_room(self):
        for r in range(1, 5):
            for thing in NOTHING + ((0,) * (r + 1), (0,) * (r - 1), (0,) * (r - 1) + (False,), [0] * r, 1):
                self.refuses(BadRoom(thing), moved, r, (((0,) * r, 1, 1),), thing)
                self.refuses(BadRoom(thing), moved, r, (), thing)

    def test_plus(self):
        one, other = (((0, 0), 1, 1), ((0, 0), 2, 2)), (((-1, 0), 2, 1), ((0, 0), 1, 3), ((0, 0), 2, -2), ((0, 1), 1, 1))
        total = (((-1, 0), 2, 1), ((0, 0), 1, 4), ((0, 1), 1, 1))
        self.tells(total, plus, 2, one, other)
        self.tells(total, plus, 2, other, one)
        self.tells(one, plus, 2, one, ())
        self.tells(one, plus, 2, (), one)
        self.tells((), plus, 2, (), ())
        self.tells((), plus, 2, other, times(2, -1, other))
        self.tells((((0,), 1, 2 * LONG),), plus, 1, (((0,), 1, LONG),), (((0,), 1, LONG),))

    def test_times(self):
        show = (((-2, 1), 1, 3), ((0, 0), 2, -1))
        self.tells((((-2, 1), 1, 6), ((0, 0), 2, -2)), times, 2, 2, show)
        self.tells((((-2, 1), 1, -3), ((0, 0), 2, 1)), times, 2, -1, show)
        self.tells(show, times, 2, 1, show)
        self.tells((), times, 2, 0, show)
        self.tells((), times, 2, 5, ())
        self.tells((((0,), 1, -10 ** 39 * LONG),), times, 1, -10 ** 39, (((0,), 1, LONG),))

    def test_number_in(self):
        show = (((-1, 0), 2, 5), ((0, 0), 1, -3), ((0, LONG), 2, LONG))
        for room, i, number in (((-1, 0), 2, 5), ((0, 0), 1, -3), ((0, LONG), 2, LONG), ((-1, 0), 1, 0), ((0, 0), 2, 0),
                                ((1, 0), 1, 0), ((0, LONG), 1, 0), ((LONG, 0), 2, 0), ((0, -1), 2, 0)):
            self.tells(number, number_in, 2, show, room, i)
            self.tells(0, number_in, 2, (), room, i)

    def test_number_in_no_passage(self):
        for r in range(1, 5):
            zero = (0,) * r
            show = ((zero, 1, 1),)
            for room in NOTHING + ((0,) * (r + 1), [0] * r, (0,) * (r - 1) + (False,), 0, (0,) * (r - 1)):
                self.refuses(BadPassage((room, 1)), number_in, r, show, room, 1)
                self.refuses(BadPassage((room, r + 1)), number_in, r, show, room, r + 1)
            for i in NOTHING + (0, -1, -r, r + 1, True, (1,), "1", [1], ()):
                self.refuses(BadPassage((zero, i)), number_in, r, show, zero, i)
                self.refuses(BadPassage((None, i)), number_in, r, (), None, i)
            for i in range(1, r + 1):
                self.tells(int(i == 1), number_in, r, show, zero, i)

    def test_number_in_carries_what_was_passed(self):
        room, i = [0, 0], {"i": 1}
        with self.assertRaises(BadPassage) as caught:
            number_in(2, (), room, i)
        self.assertIs(caught.exception.thing[0], room)
        self.assertIs(caught.exception.thing[1], i)

    def test_many_shows(self):
        chance = Random(22)
        for r in range(1, 5):
            for _ in range(30):
                one, other = some_show(chance, r, 40, 2), some_show(chance, r, 40, 2)
                room = tuple(chance.randint(-9, 9) for _ in range(r))
                total = self.told(plus, r, one, other)
                self.tells(total, plus, r, other, one)
                made = (total, self.told(moved, r, one, room), self.told(times, r, chance.randint(-3, 3), one))
                for show in made:
                    self.tells(True, is_show, r, show)
                for place, i in sorted({(place, i) for place, i, _ in one + other + total}):
                    numbers = [self.told(number_in, r, show, place, i) for show in (one, other, total)]
                    self.assertEqual(numbers[0] + numbers[1], numbers[2])
                    self.assertEqual(number_in(r, made[1], tuple(map(sum, zip(place, room))), i), numbers[0])
                self.tells(one, plus, r, total, times(r, -1, other))
                self.tells(one, moved, r, made[1], tuple(-item for item in room))
                self.tells(plus(r, one, plus(r, one, one)), times, r, 3, one)

    def test_greatest_shows(self):
        for r in range(1, 5):
            show = tuple(((LONG - 300 + k,) * r, 1 + k % r, -LONG + k) for k in range(300))
            self.tells(True, is_show, r, show)
            self.tells(True, is_show, r, plus(r, show, moved(r, show, (-1,) * r)))
            self.tells(2 * show[299][2], number_in, r, plus(r, show, show), show[299][0], show[299][1])
            self.tells((), plus, r, show, times(r, -1, show))
            self.tells(over(r, show), left_over, r, show)
            self.refuses(BadShow(show[::-1]), plus, r, show, show[::-1])


class LeftOver(Case):

    def test_any_shows(self):
        self.tells((), left_over, 1, ())
        self.tells((((0, 0), 5), ((0, 1), -5)), left_over, 2, (((0, 0), 2, 5),))
        self.tells((((-1, 0), -1), ((0, 0), 1)), left_over, 2, (((-1, 0), 1, -1),))
        self.tells((((0,), 1), ((1,), 1), ((2,), -2)), left_over, 1, (((0,), 1, 1), ((1,), 1, 2)))
        self.tells((((0, 0), 3), ((0, 1), -2), ((1, 0), -1)), left_over, 2, (((0, 0), 1, 1), ((0, 0), 2, 2)))
        self.tells((((0,), LONG), ((LONG,), -LONG), ((LONG + 1,), LONG), ((1,), -LONG))[0:1] + (
            ((1,), -LONG), ((LONG,), -LONG), ((LONG + 1,), LONG)), left_over, 1, (((0,), 1, LONG), ((LONG,), 1, -LONG)))

    def test_many_shows(self):
        chance = Random(23)
        for r in range(1, 5):
            for _ in range(40):
                show = some_show(chance, r, 60, 2)
                rest = self.told(left_over, r, show)
                self.same(rest, over(r, show))
                self.assertEqual(sum(number for _, number in rest), 0)

    def test_rows(self):
        chance = Random(24)
        for r in range(1, 5):
            zero = (0,) * r
            for row in [(), (1, -1), (1,), (-r,), (1, r, -1, -r)] + [some_row(chance, r, 60) for _ in range(40)]:
                end = row_end(r, row)
                rest = () if end == zero else tuple(sorted([(zero, 1), (end, -1)]))
                self.tells(rest, left_over, r, show_of(r, row))


class OrderOfErrors(Case):

    def test_moved(self):
        show = (((0, 0), 1, 1),)
        for wrong in ([], None, (((0, 0), 1, 0),), (((0,), 1, 1),)):
            for room in ((0, 0), (0,), None, [0, 0], wrong):
                self.refuses(BadShow(wrong), moved, 2, wrong, room)
        self.refuses(BadRoom(show), moved, 2, show, show)
        self.refuses(BadRoom((0, 0, 0)), moved, 2, show, (0, 0, 0))

    def test_plus(self):
        show = (((0, 0), 1, 1),)
        for wrong in ([], None, (((0, 0), 3, 1),)):
            for other in (True, {}, (((0, 0), 1, 0),), show):
                self.refuses(BadShow(wrong), plus, 2, wrong, other)
            self.refuses(BadShow(wrong), plus, 2, show, wrong)

    def test_number_in(self):
        for wrong in ([], None, (((0, 0), 1, True),), (((0,), 1, 1),)):
            for room in ((0, 0), (0,), None, [0]):
                for i in (1, 0, True, None, [1]):
                    self.refuses(BadShow(wrong), number_in, 2, wrong, room, i)
                    if room != (0, 0) or i != 1 or i is True:
                        self.refuses(BadPassage((room, i)), number_in, 2, (), room, i)


if __name__ == "__main__":
    unittest.main()
