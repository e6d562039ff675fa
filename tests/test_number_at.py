"""Part 3, [3.3]: numbers at stiles, told without walking."""

import unittest
from random import Random

from stilewalks.errors import BadPassage, BadScript
from stilewalks.quotients import number_at
from stilewalks.scripts import end_of, length_of, row_of
from stilewalks.shows import show_of
from tests.helping import NOTHING, Case
from tests.test_quotients import added, far_script, opposite
from tests.test_scripts import FAR, no_scripts, some_script


def scaled(number, room):
    return tuple(number * item for item in room)


def less_room(one, other):
    return added(one, opposite(other))


def box(r, script):
    """The least and the greatest items of all rooms whose passages a script may use."""
    if isinstance(script, int):
        room = tuple((script < 0) * -(k == -script) for k in range(1, r + 1))
        return room, room
    word, parts = script[0], script[1:]
    if word == "again":
        if parts[0] == 0:
            return None
        one = box(r, parts[1])
        return one and joined(one, shifted(one, scaled(parts[0] - 1, end_of(r, parts[1]))))
    if word == "back":
        one = box(r, parts[0])
        return one and shifted(one, opposite(end_of(r, parts[0])))
    if word == "around":
        return box(r, ("row", parts[0], parts[1], ("back", parts[0])))
    found, at = None, (0,) * r
    for part in parts:
        one = box(r, part)
        if one:
            found = joined(found or shifted(one, at), shifted(one, at))
        at = added(at, end_of(r, part))
    return found


def shifted(one, room):
    return added(one[0], room), added(one[1], room)


def joined(one, other):
    return tuple(map(min, one[0], other[0])), tuple(map(max, one[1], other[1]))


class TooMany(Exception):
    pass


def number_of(r, script, room, i):
    """The number of a stile by looking at all blocks that can come near it; raises TooMany if they are too many."""
    if isinstance(script, int):
        place = tuple((script < 0) * -(k == -script) for k in range(1, r + 1))
        return (1 if script > 0 else -1) if place == room and abs(script) == i else 0
    reach = box(r, script)
    if reach is None or not all(a <= item <= b for a, item, b in zip(reach[0], room, reach[1])):
        return 0
    word, parts = script[0], script[1:]
    if word == "back":
        return -number_of(r, parts[0], added(room, end_of(r, parts[0])), i)
    if word == "around":
        return number_of(r, ("row", parts[0], parts[1], ("back", parts[0])), room, i)
    if word == "row":
        total = 0
        for part in parts:
            total += number_of(r, part, room, i)
            room = less_room(room, end_of(r, part))
        return total
    n, block = parts
    end, (low, high) = end_of(r, block), box(r, block)
    if not any(end):
        return n * number_of(r, block, room, i)
    first, last = 0, n - 1
    for item, by, least, most in zip(room, end, low, high):
        if by > 0:
            first, last = max(first, -((most - item) // by)), min(last, (item - least) // by)
        if by < 0:
            first, last = max(first, -((item - least) // -by)), min(last, (most - item) // -by)
    if last - first > 60:
        raise TooMany
    return sum(number_of(r, block, less_room(room, scaled(k, end)), i) for k in range(first, last + 1))


def rooms_near(chance, r, script):
    """Rooms near which a script changes stiles: at first, second and last repeats, beyond, and in the midst."""
    rooms = [(0,) * r]
    at = (0,) * r
    while not isinstance(script, int):
        word, parts = script[0], script[1:]
        if word == "again":
            n, script = parts
            end = end_of(r, script)
            k = chance.choice((0, 1, n - 1, n, n - 2, n // 2, chance.randint(0, n)))
            at = added(at, scaled(k, end))
        elif word == "back":
            script = parts[0]
            at = less_room(at, end_of(r, script))
        elif word == "around":
            k = chance.randrange(3)
            at = added(at, ((0,) * r, end_of(r, parts[0]), end_of(r, parts[1]))[k])
            script = parts[0] if k != 1 else parts[1]
        elif not parts:
            break
        else:
            k = chance.randrange(len(parts))
            for part in parts[:k]:
                at = added(at, end_of(r, part))
            script = parts[k]
        rooms.append(at)
    return [added(room, tuple(chance.choice((0, 0, 1, -1)) for _ in range(r))) for room in rooms] + rooms


class Numbers(Case):

    def test_short_scripts(self):
        chance = Random(41)
        for r in range(1, 5):
            found = 0
            while found < 60:
                script = some_script(chance, r, 4)
                if length_of(r, script) > 400 or repr(script).count("again") > 5:
                    continue
                found += 1
                numbers = {(room, i): number for room, i, number in show_of(r, row_of(r, script))}
                for room in {room for room, _ in numbers} | {(0,) * r, end_of(r, script)}:
                    for i in range(1, r + 1):
                        for at in (room, room[:i - 1] + (room[i - 1] + 1,) + room[i:], opposite(room)):
                            self.same(number_at(r, script, at, i), numbers.get((at, i), 0))

    def test_plain_repeats(self):
        for n in (0, 1, 2, 3, FAR):
            for at, number in ((-2, 0), (-1, 0), (0, n > 0), (1, n > 1), (n - 2, n > 1), (n - 1, n > 0), (n, 0), (n // 2, n > 0),
                               (10 ** 99, 0), (-10 ** 99, 0), (10 ** 100 - 1, 0)):
                self.tells(int(number), number_at, 1, ("again", n, 1), (at,), 1)
                self.tells(-int(number), number_at, 1, ("again", n, -1), (-1 - at,), 1)
                self.tells(-int(number), number_at, 1, ("back", ("again", n, 1)), (at - n,), 1)
                self.tells(int(number), number_at, 3, ("again", n, 2), (0, at, 0), 2)
                self.tells(0, number_at, 3, ("again", n, 2), (0, at, 0), 3)
                self.tells(0, number_at, 3, ("again", n, 2), (0, at, 1), 2)

    def test_closed_blocks(self):
        loop = ("row", 1, 2, -1, -2)
        for room, i, number in show_of(2, row_of(2, loop)):
            self.tells(number * FAR, number_at, 2, ("again", FAR, loop), room, i)
            self.tells(number * FAR ** 3, number_at, 2, ("again", FAR, ("again", FAR, ("again", FAR, loop))), room, i)
        self.tells(0, number_at, 2, ("again", FAR, ("row",)), (0, 0), 1)
        self.tells(0, number_at, 2, ("again", FAR, ("row", 1, -1)), (0, 0), 1)

    def test_blocks_on_one_line(self):
        """A block goes m rooms on, and comes back on another line but for c rooms, n times."""
        chance = Random(42)
        for _ in range(60):
            n, m = chance.choice((3, 10 ** 10, FAR)), chance.choice((5, FAR, FAR - 1, chance.randint(1, FAR)))
            c = chance.choice((1, -1, 2, -3, m // 2, -m // 3, m - 1, -m, m, chance.randint(-m, m)))
            c = c or 1
            back = ("again", m - c, -1) if m > c else ("row",)
            script = ("again", n, ("row", ("again", m, 1), 2, back, -2))
            last = (n - 1) * c
            for at in (0, c, 2 * c, m, m - 1, last, last + c, last + m, last + m - 1, last + m + c, last // 2, last // 2 + m,
                       last // 3 + chance.randint(0, m), chance.randint(-m, m), -1, min(0, last) - 1, max(0, last) + m):
                for x in (at - 1, at, at + 1):
                    self.same(number_at(2, script, (x, 0), 1), self.blocks(n, c, x - m + 1, x))
                    # On the way back the block goes from m down to c.
                    self.same(number_at(2, script, (x, 1), 1), -self.blocks(n, c, x - m + 1, x - c))
                    self.same(number_at(2, script, (x, 2), 1), 0)

    def blocks(self, n, c, low, high):
        """The number of k from 0 to n - 1 for which k times c is from low to high."""
        if c < 0:
            c, low, high = -c, -high, -low
        return max(0, min(n - 1, high // c) - max(0, -(-low // c)) + 1)

    def test_three_blocks(self):
        """Two blocks with ends on one line, and a third one around them that leads elsewhere."""
        n, m, q = FAR, FAR - 7, FAR // 3
        for c in (1, -1, 12345, -10 ** 15, m // 2, 1 - m):
            inner = ("again", n, ("row", ("again", m, 1), 2, ("again", m - c, -1), -2))
            run = ("again", abs(n * c), -1 if c > 0 else 1)
            for block, step, ahead in ((("row", inner, 2, 2), (n * c, 2), (0, 0)),
                                       (("row", inner, 2, 2, -1, 2), (n * c - 1, 3), (0, 0)),
                                       (("row", 2, 2, run, 2, inner), (0, 3), (-n * c, 3))):
                script = ("again", q, block)
                for k in (0, 1, 2, q // 2, q - 1, q, -1):
                    there = added(scaled(k, step), ahead)
                    for x in (0, c, c + m, (n - 1) * c, n * c // 2 + m // 2, n * c + m, -1):
                        number = self.blocks(n, c, x - m + 1, x) if 0 <= k < q else 0
                        self.same(number_at(2, script, added(there, (x, 0)), 1), number)

    def test_opposite_lines(self):
        script = ("again", FAR, ("row", ("again", FAR + 1, 1), 2, ("again", FAR + 2, -1), -2))
        self.tells(1, number_at, 2, script, (FAR, 0), 1)
        self.tells(FAR, number_at, 2, script, (0, 0), 1)
        self.tells(FAR, number_at, 2, script, (1, 0), 1)
        self.tells(FAR - 1, number_at, 2, script, (2, 0), 1)
        self.tells(1, number_at, 2, script, (1 - FAR, 0), 1)
        self.tells(0, number_at, 2, script, (-FAR, 0), 1)
        self.tells(-1, number_at, 2, script, (FAR, 1), 1)
        self.tells(0, number_at, 2, script, (FAR + 1, 1), 1)

    def test_far_scripts(self):
        chance = Random(43)
        told = 0
        for r in range(1, 5):
            for _ in range(150):
                script = far_script(chance, r, 5)
                if repr(script).count("again") > 4:
                    continue
                for room in rooms_near(chance, r, script):
                    i = chance.randint(1, r)
                    try:
                        number = number_of(r, script, room, i)
                    except TooMany:
                        continue
                    told += number != 0
                    self.same(number_at(r, script, room, i), number)
        self.assertGreater(told, 500)

    def test_sums(self):
        """Scripts put together show sums: also where repeats overlap too often to be looked at one by one."""
        chance = Random(44)
        for r in (2, 3, 4):
            found = 0
            while found < 40:
                script = far_script(chance, r, 4, 2)
                if repr(script).count("again") > 3:
                    continue
                found += 1
                n, end = chance.choice((2, 5, FAR)), end_of(r, script)
                k = chance.randint(1, n - 1)
                for room in rooms_near(chance, r, ("again", n, script)):
                    i = chance.randint(1, r)
                    whole = number_at(r, ("again", n, script), room, i)
                    first = number_at(r, ("again", k, script), room, i)
                    rest = number_at(r, ("again", n - k, script), less_room(room, scaled(k, end)), i)
                    self.same(whole, first + rest)
                    back = number_at(r, ("back", ("again", n, script)), less_room(room, scaled(n, end)), i)
                    self.same(back, -whole)
                    self.same(number_at(r, ("again", n, ("back", script)), less_room(room, scaled(n, end)), i), -whole)
                    ahead = number_at(r, ("around", ("row", r, 1), ("again", n, script)), added(room, end_of(r, ("row", r, 1))), i)
                    around = number_at(r, ("row", r, 1, ("again", n, script), -1, -r), added(room, end_of(r, ("row", r, 1))), i)
                    self.same(ahead, around)

    def test_three_on_one_line(self):
        """More than the document asks for: three blocks on one line, where they hardly overlap, or are few."""
        script = ("again", FAR, ("again", FAR, ("again", FAR, 1)))
        for x, number in ((-1, 0), (0, 1), (FAR ** 2 + 7, 1), (FAR ** 3 - 1, 1), (FAR ** 3, 0)):
            self.tells(number, number_at, 1, script, (x,), 1)
        script = ("again", 3, ("row", ("again", 4, ("row", ("again", 5, 1), -1)), -1, -1))
        numbers = {room: number for room, _, number in show_of(1, row_of(1, script))}
        for x in range(-5, 50):
            self.tells(numbers.get((x,), 0), number_at, 1, script, (x,), 1)

    def test_forty_parts(self):
        chance = Random(45)
        for r in range(2, 5):
            for _ in range(6):
                parts = []
                for _ in range(4):
                    steps = tuple(chance.choice((1, -1)) * chance.randint(1, r) for _ in range(chance.randint(1, 6)))
                    parts.append(("again", chance.choice((FAR, chance.randint(2, FAR))), ("row",) + steps))
                script = ("row",) + tuple(parts) + tuple(chance.choice((1, -1)) * chance.randint(1, r) for _ in range(7))
                for _ in range(10):
                    for room in rooms_near(chance, r, script):
                        i = chance.randint(1, r)
                        self.same(number_at(r, script, room, i), number_of(r, script, room, i))
                    room = tuple(chance.randint(-10 ** 30, 10 ** 30) for _ in range(r))
                    self.same(number_at(r, script, room, i), number_of(r, script, room, i))


class Errors(Case):

    def test_order(self):
        for r in range(1, 5):
            for thing in no_scripts(r)[::3]:
                self.refuses(BadScript(thing), number_at, r, thing, (0,) * r, 1)
                self.refuses(BadScript(thing), number_at, r, thing, [0], True)
            for room in NOTHING:
                self.refuses(BadPassage((room, 1)), number_at, r, 1, room, 1)
                self.refuses(BadPassage((room, room)), number_at, r, ("again", FAR, 1), room, room)
            for i in (0, r + 1, -1, -r, 10 ** 39, True, False, None, "1", (1,), [1], {}, {1: 1}):
                self.refuses(BadPassage(((0,) * r, i)), number_at, r, ("row",), (0,) * r, i)
                self.refuses(BadPassage(([0] * r, i)), number_at, r, ("row",), [0] * r, i)
            for room in ((0,) * (r + 1), (0,) * (r - 1), (0,) * (r - 1) + (True,), (0,) * (r - 1) + (None,), [0] * r):
                self.refuses(BadPassage((room, 1)), number_at, r, 1, room, 1)


if __name__ == "__main__":
    unittest.main()
