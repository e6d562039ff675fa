"""Part 11: rows with told shows and the fewest steps."""

import unittest
from itertools import combinations, product
from random import Random

from stilewalks.built import judge_show, pieces_of, show_holds
from stilewalks.errors import BadShow, NotBalanced
from stilewalks.fewest import fewest_joining, fewest_steps, shortest_row
from stilewalks.heights import show_of_heights
from stilewalks.scripts import is_row, row_end
from stilewalks.shows import left_over, moved, plus, show_of, times
from tests.helping import Case
from tests.test_led import LOOP
from tests.test_rows import some_row
from tests.test_shows import ahead_of, no_shows

SQUARE = (((2, 0), 1, 1), ((2, 0), 2, -1), ((2, 1), 1, -1), ((3, 0), 2, 1))


def size_of(show):
    return sum(abs(number) for _, _, number in show)


def lots_by_hand(r, show):
    lots = [set(piece) for piece in pieces_of(r, show)]
    end = next((room for room, number in left_over(r, show) if number == -1), (0,) * r)
    for room in ((0,) * r, end):
        if not any(room in lot for lot in lots):
            lots.append({room})
    return lots


def distances(r, rooms, free, start):
    """How many passages one needs, besides those of the show, from some rooms to all rooms of a box."""
    found = {room: 0 for room in start}
    ring = list(start)
    many = 0
    while ring:
        # First as far as one comes without a passage more.
        for room in ring:
            for i in range(1, r + 1):
                behind = tuple(item - (k == i - 1) for k, item in enumerate(room))
                for other, passage in ((ahead_of(room, i), (room, i)), (behind, (behind, i))):
                    if passage in free and other in rooms and other not in found:
                        found[other] = many
                        ring.append(other)
        many += 1
        after = []
        for room in ring:
            for i in range(1, r + 1):
                behind = tuple(item - (k == i - 1) for k, item in enumerate(room))
                for other in (ahead_of(room, i), behind):
                    if other in rooms and other not in found:
                        found[other] = many
                        after.append(other)
        ring = after
    return found


def tree_cost(table, nodes):
    """The cost of the cheapest tree of straight ways between some nodes."""
    joined, cost = {nodes[0]}, 0
    while len(joined) < len(nodes):
        price, k = min((table[one][two], k) for one in joined for k, two in enumerate(nodes) if two not in joined)
        joined.add(nodes[k])
        cost += price
    return cost


def joining_by_hand(r, show):
    """The least number of joining passages: a tree with k lots needs at most k - 2 rooms more at which it parts."""
    lots = lots_by_hand(r, show)
    places = [room for lot in lots for room in lot]
    low, high = (tuple(f(room[k] for room in places) for k in range(r)) for f in (min, max))
    rooms = set(product(*[range(a - 1, b + 2) for a, b in zip(low, high)]))
    free = {(room, i) for room, i, _ in show}
    starts = {k: lot for k, lot in enumerate(lots)}
    inner = sorted(room for room in rooms if all(a <= item <= b for a, item, b in zip(low, room, high)))
    table = {}
    far = {room: distances(r, rooms, free, [room]) for room in inner} if len(lots) > 2 else {}
    for k, lot in starts.items():
        near = distances(r, rooms, free, lot)
        table[k] = {j: min(near[room] for room in other) for j, other in starts.items()}
        table[k].update({room: near[room] for room in inner})
    for room in far:
        table[room] = {k: table[k][room] for k in starts}
        table[room].update({other: far[room][other] for other in inner})
    best = tree_cost(table, list(starts))
    for many in range(1, len(lots) - 1):
        for more in combinations(inner, many):
            best = min(best, tree_cost(table, list(starts) + list(more)))
    return best


def shows_within(r, most):
    """For each show of a row of at most so many steps the fewest steps with it."""
    fewest = {}
    states = {((0,) * r, ())}
    for steps in range(most + 1):
        for _, show in states:
            fewest.setdefault(show, steps)
        after = set()
        for room, show in states:
            numbers = {(place, i): number for place, i, number in show}
            for i in range(1, r + 1):
                ahead = ahead_of(room, i)
                behind = tuple(item - (k == i - 1) for k, item in enumerate(room))
                for other, passage, by in ((ahead, (room, i), 1), (behind, (behind, i), -1)):
                    more = dict(numbers)
                    more[passage] = more.get(passage, 0) + by
                    after.add((other, tuple((place, k, more[place, k]) for place, k in sorted(more) if more[place, k])))
        states = after
    return fewest


def pieces_show(chance, many, walk, wide=4):
    """A balanced show of two directions of several squares and other pieces, within the limits."""
    rooms = [(a, b) for a in range(-wide, wide) for b in range(-4, 4)]
    show = ()
    for room in chance.sample(rooms, many):
        heights = ((room, chance.choice((-2, -1, 1, 3))),)
        show = plus(2, show, show_of_heights(heights))
    if walk:
        row = ()
        for _ in range(chance.randint(1, 6)):
            step = chance.choice((1, -1, 2, -2))
            if all(abs(item) <= 4 for item in row_end(2, row + (step,))):
                row += (step,)
        show = plus(2, show, show_of(2, row))
    return show


class Fewest(Case):

    def check(self, r, show, joining=None):
        if joining is None:
            joining = joining_by_hand(r, show)
        self.assertEqual(fewest_joining(r, show), joining, (r, show))
        self.assertEqual(fewest_steps(r, show), size_of(show) + 2 * joining)
        row = shortest_row(r, show)
        self.assertTrue(is_row(r, row))
        self.assertEqual(show_of(r, row), show)
        self.assertEqual(len(row), size_of(show) + 2 * joining)
        self.assertIs(show_holds(r, show, ("row", row)), True)
        self.same(shortest_row(r, show), row)

    def test_all_rows(self):
        """Against a search over all rows of few steps."""
        found = 0
        for r, most in ((1, 9), (2, 8)):
            for show, steps in shows_within(r, most).items():
                found += steps > size_of(show)
                self.assertEqual(fewest_steps(r, show), steps, (r, show))
                self.assertEqual(fewest_joining(r, show) * 2, steps - size_of(show))
                row = shortest_row(r, show)
                self.assertEqual(len(row), steps)
                self.assertEqual(show_of(r, row), show)
        # Some of them have something to join.
        self.assertGreater(found, 20)

    def test_plain(self):
        self.tells(2, fewest_joining, 2, SQUARE)
        self.tells(8, fewest_steps, 2, SQUARE)
        self.tells(0, fewest_steps, 1, ())
        self.tells(0, fewest_joining, 2, ())
        self.tells((), shortest_row, 1, ())
        self.tells(1, fewest_steps, 1, (((0,), 1, 1),))
        self.tells((1,), shortest_row, 1, (((0,), 1, 1),))
        self.tells((1,) * 4, shortest_row, 1, show_of(1, (1,) * 4))
        self.tells((-1,) * 4, shortest_row, 1, show_of(1, (-1,) * 4))
        self.check(2, self.told(plus, 2, SQUARE, ()), 2)
        self.check(2, show_of(2, LOOP), 0)
        self.check(2, times(2, 30, show_of(2, LOOP)), 0)
        self.check(2, times(2, -30, moved(2, show_of(2, LOOP), (-4, -4))), 6)

    def test_one_direction(self):
        """In one direction each balanced show is that of a straight row."""
        for k in range(-4, 5):
            row = (1,) * k if k >= 0 else (-1,) * -k
            self.check(1, show_of(1, row), 0)

    def test_one_lot(self):
        chance = Random(201)
        for _ in range(40):
            show = show_of(2, some_row(chance, 2, 12))
            if len(pieces_of(2, show)) == 1 and len(lots_by_hand(2, show)) == 1 and all(abs(item) <= 4 for room, _, _ in show for item in room):
                self.check(2, show, 0)

    def test_far_lots(self):
        """Lots between which the ways are plain."""
        square = show_of(2, LOOP)
        for a in range(-4, 4):
            for b in range(-4, 4):
                if not (-1 <= a <= 0 and -1 <= b <= 0):
                    self.check(2, moved(2, square, (a, b)), max(a, -1 - a, 0) + max(b, -1 - b, 0))
        # The four corners and the beginning: a way from side to side, and two ways across it.
        corners = ()
        for a in (-4, 3):
            for b in (-4, 3):
                corners = plus(2, corners, moved(2, square, (a, b)))
        self.check(2, corners, 6 + 6 + 6)
        self.assertEqual(len(lots_by_hand(2, corners)), 5)
        # Lots that touch at a corner are one lot, and lots beside each other need one passage.
        touching = plus(2, moved(2, square, (1, 1)), moved(2, square, (2, 2)))
        self.assertEqual(len(pieces_of(2, touching)), 1)
        self.check(2, touching, 2)
        apart = plus(2, moved(2, square, (1, 1)), moved(2, square, (3, 2)))
        self.assertEqual(len(pieces_of(2, apart)), 2)
        self.check(2, apart, 3)
        # Passages of a long lot help to join others.
        bar = show_of_heights(tuple(((a, 2), 1) for a in range(-4, 4)))
        self.check(2, plus(2, bar, plus(2, moved(2, square, (-4, 0)), moved(2, square, (3, 0)))), 4)
        self.check(2, plus(2, bar, plus(2, moved(2, square, (-4, 0)), moved(2, square, (3, -3)))))

    def test_beginning_and_end(self):
        """The beginning in no piece; a row that is not closed has both its ends in pieces."""
        square = show_of(2, LOOP)
        for row in ((1,), (2, 2), (1, 2, -1), (-1, -1, -1, -1), (2, 1, 2, 1)):
            self.check(2, show_of(2, row), 0)
            self.check(2, plus(2, show_of(2, row), moved(2, square, (2, -4))))
            self.check(2, plus(2, show_of(2, row), moved(2, square, (-4, 3))))
        # A row that is not closed can have two pieces with a walk between them only if both ends are in one of them.
        self.check(2, plus(2, show_of(2, (1, 1)), moved(2, square, (1, 2))), 2)

    def test_two_directions(self):
        chance = Random(202)
        lots = {}
        for many in (1, 2, 3):
            for walk in (False, True):
                for _ in range(14):
                    show = pieces_show(chance, many, walk)
                    count = len(lots_by_hand(2, show))
                    if count <= 4 and size_of(show) <= 120:
                        lots[count] = lots.get(count, 0) + 1
                        self.check(2, show)
        self.assertEqual(sorted(lots), [1, 2, 3, 4])

    def test_five_lots(self):
        """Five lots in a narrow hall, against a search over all rooms at which a tree can part."""
        chance = Random(203)
        tested = 0
        while tested < 8:
            show = pieces_show(chance, 4, False, 1)
            if len(lots_by_hand(2, show)) == 5:
                tested += 1
                self.check(2, show)

    def test_five_lots_anywhere(self):
        """Each answer comes quickly, and the row has the show and so many steps."""
        chance = Random(204)
        tested = 0
        for _ in range(200):
            show = pieces_show(chance, 4, False)
            if len(lots_by_hand(2, show)) == 5 and size_of(show) <= 120:
                tested += 1
                joining = fewest_joining(2, show)
                self.check(2, show, joining)
                # Not more than a tree of straight ways.
                lots = lots_by_hand(2, show)
                table = [[min(abs(a[0] - b[0]) + abs(a[1] - b[1]) for a in one for b in other) for other in lots] for one in lots]
                self.assertLessEqual(joining, tree_cost(table, list(range(5))))
        self.assertGreater(tested, 25)

    def test_great_shows(self):
        chance = Random(206)
        for _ in range(20):
            heights = tuple(((a, b), chance.choice((-1, 1))) for a in range(-4, 4) for b in range(-4, 4) if chance.random() < 0.35)
            show = show_of_heights(heights)
            if size_of(show) <= 120 and len(lots_by_hand(2, show)) <= 4:
                self.check(2, show)

    def test_not_balanced(self):
        self.refuses(NotBalanced(("room", (3,))), fewest_steps, 1, (((3,), 1, 1),))
        chance = Random(205)
        found = set()
        for r in (1, 2):
            for _ in range(150):
                passages = {(tuple(chance.randint(-4, 4) for _ in range(r)), chance.randint(1, r)) for _ in range(chance.randint(1, 5))}
                show = tuple((room, i, chance.choice((-1, 1, -1, 2))) for room, i in sorted(passages))
                if chance.random() < 0.3:
                    show = plus(r, show_of(r, (1,) * chance.randint(1, 4)), show_of(r, (-r,) * chance.randint(1, 4)))
                if judge_show(r, show)[0] == "row":
                    continue
                for function in (fewest_joining, fewest_steps, shortest_row):
                    with self.assertRaises(NotBalanced) as caught:
                        function(r, show)
                    self.assertIs(show_holds(r, show, caught.exception.certificate), True)
                    self.assertIn(caught.exception.certificate[0], ("room", "rooms"))
                    found.add(caught.exception.certificate[0])
        self.assertEqual(sorted(found), ["room", "rooms"])

    def test_errors(self):
        for r in (1, 2):
            for thing in no_shows(r):
                for function in (fewest_joining, fewest_steps, shortest_row):
                    self.refuses(BadShow(thing), function, r, thing)


if __name__ == "__main__":
    unittest.main()
