"""Part 4, [4.1] and [4.2]: alike scripts, and scripts that are alike in halls."""

import unittest
from random import Random

from stilewalks.alike import alike_holds, alike_in, are_alike, judge_alike
from stilewalks.errors import BadHall, BadScript
from stilewalks.quotients import number_at
from stilewalks.rolled import rolled_show
from stilewalks.scripts import end_of, length_of, row_of
from stilewalks.shows import show_of
from tests.helping import NOTHING, Case, near_misses
from tests.test_quotients import far_script
from tests.test_scripts import FAR, no_scripts, some_script

LOOP = ("row", 1, 2, -1, -2)
OTHER_LOOP = ("row", -1, 2, 1, -2)


def written_otherwise(chance, r, script):
    """A script that is alike another one, from its meaning alone."""
    if isinstance(script, int):
        return chance.choice((script, script, ("row", script), ("back", -script), ("again", 1, script)))
    word, parts = script[0], script[1:]
    parts = tuple(part if word == "again" and k == 0 else written_otherwise(chance, r, part) for k, part in enumerate(parts))
    script = (word,) + parts
    if word == "again":
        return again_otherwise(chance, r, parts[0], parts[1])
    if word == "around":
        return chance.choice((script, ("row", parts[0], parts[1], ("back", parts[0])),
                              ("back", ("around", parts[0], ("back", parts[1])))))
    if word == "back":
        block = parts[0]
        if isinstance(block, tuple) and block[0] == "row":
            return chance.choice((script, ("row",) + tuple(("back", part) for part in block[1:][::-1])))
        if isinstance(block, tuple) and block[0] == "again":
            return chance.choice((script, ("again", block[1], ("back", block[2]))))
        return chance.choice((script, ("back", ("back", script))))
    made = list(parts)
    for k in range(len(made) - 1):
        # Closed neighbours can be exchanged.
        if not any(end_of(r, made[k])) and not any(end_of(r, made[k + 1])):
            made[k], made[k + 1] = made[k + 1], made[k]
    if chance.random() < 0.3:
        k = chance.randint(0, len(made))
        step = chance.choice((1, -1)) * chance.randint(1, r)
        made[k:k] = [step, -step]
    return ("row",) + tuple(made)


def again_otherwise(chance, r, n, block):
    way = chance.randrange(5)
    if way == 0 and n > 1:
        k = chance.choice((1, n - 1, n // 2, chance.randint(1, n - 1)))
        return ("row", ("again", k, block), ("again", n - k, block))
    if way == 1 and n > 1:
        for k in (2, 3, 10):
            if n % k == 0:
                return ("again", n // k, ("row",) + (block,) * k) if k < 4 else ("again", n // k, ("again", k, block))
    if way == 2 and n > 0 and isinstance(block, tuple) and block[0] == "row" and len(block) > 1:
        first, rest = block[1], block[2:]
        return ("row", first, ("again", n - 1, ("row",) + rest + (first,))) + rest
    if way == 3 and isinstance(block, tuple) and block[0] == "again":
        return ("again", n * block[1], block[2])
    if way == 4 and isinstance(block, tuple) and block[0] == "around":
        return ("around", block[1], ("again", n, block[2]))
    return ("again", n, block)


def with_loop(r, script, way, loop):
    """A script, with a loop that is walked from the end of some way, done ahead of it."""
    return ("row", ("around", way, loop), script)


class AlikeScripts(Case):

    def check_alike(self, r, one, other):
        for script, thing in ((one, other), (other, one)):
            self.assertIs(are_alike(r, script, thing), True, (r, script, thing))
            self.same(judge_alike(r, script, thing), ("alike",))
            self.assertIs(alike_holds(r, script, thing, ("alike",)), True)
            end = end_of(r, one)
            for certificate in (("ends", end, end), ("stile", end, 1, 0, 0), ("stile", end, 1, 1, 0), ("stile", (0,) * r, r, 0, 1),
                                ("alike", ()), (), "alike", ["alike"], ("Alike",), None):
                self.assertIs(alike_holds(r, script, thing, certificate), False)

    def check_unlike(self, r, one, other):
        self.assertIs(are_alike(r, one, other), False, (r, one, other))
        certificate = judge_alike(r, one, other)
        self.same(judge_alike(r, one, other), certificate)
        self.assertIs(alike_holds(r, one, other, certificate), True)
        self.assertIs(alike_holds(r, one, other, ("alike",)), False)
        ends = (end_of(r, one), end_of(r, other))
        if certificate[0] == "ends":
            self.same(certificate[1:], ends)
        else:
            word, room, i, number, many = certificate
            self.assertEqual(word, "stile")
            self.same((number, many), (number_at(r, one, room, i), number_at(r, other, room, i)))
            self.assertNotEqual(number, many)
            self.assertIs(alike_holds(r, other, one, ("stile", room, i, many, number)), True)
            for thing in (("stile", room, i, many, number), ("stile", room, i, number, number), ("stile", room, i, number + 1, many),
                          ("stile", room, i, number, many - 1), ("stile", room, i, number), ("stile", room, i, number, many, 0),
                          ("stile", room, 0, number, many), ("stile", room, r + 1, number, many), ("stile", list(room), i, number, many),
                          ("stile", room + (0,), i, number, many), ("stile", room, i, number, str(many)), ("ends", room, room),
                          ("stile", (room, i), number, many), ("stile", room, i, number == 1, many), list(certificate)):
                self.assertIs(alike_holds(r, one, other, thing), False, thing)
        self.assertIs(alike_holds(r, one, other, ("ends",) + ends), ends[0] != ends[1])
        self.assertIs(alike_holds(r, one, other, ("ends",) + ends[::-1]), False)
        return certificate

    def test_short_scripts(self):
        chance = Random(51)
        for r in range(1, 5):
            found = [0, 0]
            while min(found) < 25:
                one = some_script(chance, r, 3)
                other = chance.choice((some_script(chance, r, 3), written_otherwise(chance, r, one)))
                if max(length_of(r, one), length_of(r, other)) > 400 or repr((one, other)).count("again") > 8:
                    continue
                rows = row_of(r, one), row_of(r, other)
                alike = show_of(r, rows[0]) == show_of(r, rows[1])
                found[alike] += 1
                (self.check_alike if alike else self.check_unlike)(r, one, other)

    def test_written_otherwise(self):
        chance = Random(52)
        for r in range(1, 5):
            found = 0
            while found < 60:
                one = far_script(chance, r, 4)
                other = written_otherwise(chance, r, one)
                if repr(one).count("again") > 4 or repr(other).count("again") > 5:
                    continue
                found += 1
                self.check_alike(r, one, other)

    def test_plain_pairs(self):
        block = ("row", 1, 2, 2)
        for one, other in ((("again", FAR, ("row", 1, 1)), ("again", 2 * FAR, 1)),
                           (("again", FAR, block), ("row", ("again", FAR - 1, block), block)),
                           (("again", FAR, block), ("row", 1, ("again", FAR - 1, ("row", 2, 2, 1)), 2, 2)),
                           (("again", FAR, ("again", FAR, block)), ("again", FAR * FAR, block)),
                           (("around", ("again", FAR, 1), 2), ("row", ("again", FAR, 1), 2, ("again", FAR, -1))),
                           (("again", FAR, ("around", 1, 2)), ("around", 1, ("again", FAR, 2))),
                           (("row", LOOP, OTHER_LOOP), ("row", OTHER_LOOP, LOOP)),
                           (("row", ("again", FAR, LOOP), ("again", 7, OTHER_LOOP)), ("row", ("again", 7, OTHER_LOOP), ("again", FAR, LOOP))),
                           (("again", FAR, ("row", 1, -1)), ("row",)), (("again", 0, 1), ("again", FAR, ("row",))),
                           (("row", ("again", FAR, -2), ("again", FAR, 2)), ("row",)),
                           (("again", FAR, ("row", LOOP, OTHER_LOOP)), ("row", ("again", FAR, OTHER_LOOP), ("again", FAR, LOOP)))):
            for r in (2, 3, 4):
                self.check_alike(r, one, other)
            self.tells(True, are_alike, 2, one, other)
            self.tells(("alike",), judge_alike, 2, one, other)
            self.tells(True, alike_holds, 2, one, other, ("alike",))

    def test_far_parting(self):
        """Pairs that part at a few stiles only, far away, or at some in a long repeat."""
        chance = Random(53)
        for r in (2, 3, 4):
            found = 0
            while found < 30:
                one = far_script(chance, r, 3, 2)
                if repr(one).count("again") > 3:
                    continue
                found += 1
                other = written_otherwise(chance, r, one)
                way = ("row", ("again", chance.choice((FAR, 5)), chance.choice((1, -r))), ("again", FAR, chance.choice((2, -1))))
                certificate = self.check_unlike(r, with_loop(r, one, way, LOOP), other)
                self.assertEqual(certificate[0], "stile")
                certificate = self.check_unlike(r, with_loop(r, one, way, LOOP), with_loop(r, other, way, OTHER_LOOP))
                self.assertEqual(certificate[0], "stile")
                self.check_alike(r, with_loop(r, one, way, LOOP), with_loop(r, other, way, LOOP))
                self.check_unlike(r, ("row", one, 1), other)
                self.check_unlike(r, ("again", FAR, ("row", 2, one, LOOP)), ("again", FAR, ("row", 2, other)))

    def test_far_stiles(self):
        one, other = ("again", FAR, ("row", 1, 2)), ("again", FAR, ("row", 2, 1))
        for k in (0, 1, FAR // 2, FAR - 1):
            self.tells(True, alike_holds, 2, one, other, ("stile", (k, k), 1, 1, 0))
            self.tells(True, alike_holds, 2, one, other, ("stile", (k + 1, k), 2, 1, 0))
            self.tells(True, alike_holds, 2, one, other, ("stile", (k, k), 2, 0, 1))
            self.tells(False, alike_holds, 2, one, other, ("stile", (k, k), 2, 1, 0))
            self.tells(False, alike_holds, 2, one, other, ("stile", (k, k), 1, True, False))
            self.tells(False, alike_holds, 2, one, other, ("stile", (k, k), True, 1, 0))
        for k in (-1, FAR, FAR + 1):
            self.tells(False, alike_holds, 2, one, other, ("stile", (k, k), 1, 1, 0))
            self.tells(False, alike_holds, 2, one, other, ("stile", (k, k), 1, 0, 0))

    def test_unlike_ends(self):
        for r in range(1, 5):
            for one, other in ((1, ("row",)), (1, -1), (("again", FAR, r), ("again", FAR - 1, r)), (("again", FAR, 1), 1)):
                ends = (end_of(r, one), end_of(r, other))
                self.assertNotEqual(ends[0], ends[1])
                self.check_unlike(r, one, other)
                self.tells(True, alike_holds, r, one, other, ("ends",) + ends)
                self.tells(False, are_alike, r, one, other)
                for thing in (("ends",) + ends[::-1], ("ends", ends[0]), ("ends", ends[0], ends[0]), ("ends", ends), ("ends",),
                              ("ends",) + ends + ((),), ("end",) + ends, ["ends", ends[0], ends[1]],
                              ("ends", list(ends[0]), ends[1]), ("ends", ends[0], ends[1] + (0,))):
                    self.tells(False, alike_holds, r, one, other, thing)
        self.tells(True, alike_holds, 1, 1, ("row",), ("ends", (1,), (0,)))
        self.tells(False, alike_holds, 1, 1, ("row",), ("ends", (True,), (0,)))
        self.tells(False, alike_holds, 1, 1, ("row",), ("ends", (1,), (False,)))

    def is_right(self, r, one, other, thing):
        """Whether a value is a certificate for two short scripts."""
        rows = row_of(r, one), row_of(r, other)
        shows = [{(room, i): number for room, i, number in show_of(r, row)} for row in rows]
        right = [("alike",)] if shows[0] == shows[1] else []
        if end_of(r, one) != end_of(r, other):
            right.append(("ends", end_of(r, one), end_of(r, other)))
        for passage in sorted(set(shows[0]) | set(shows[1])):
            numbers = tuple(show.get(passage, 0) for show in shows)
            if numbers[0] != numbers[1]:
                right.append(("stile",) + passage + numbers)
        return repr(thing) in [repr(certificate) for certificate in right]

    def test_any_value(self):
        chance = Random(54)
        pairs = ((LOOP, OTHER_LOOP), (("row", LOOP, OTHER_LOOP), ("row", OTHER_LOOP, LOOP)), (("row", 1, 2), ("row", 2, 1)), (1, ("row",)),
                 (1, 2), (("again", 5, ("row", 1, 2)), ("row", ("again", 5, 1), ("again", 5, 2))))
        for one, other in pairs:
            for thing in NOTHING + ("alike", "ends", ("alike", None), ("stile",), ("ends",), ("stile", None, None, None, None),
                                    ("ends", None, None), ("ends", [], {}), ("stile", (0, 0), 1, [], {}), ({}, 1), ([],)):
                self.tells(False, alike_holds, 2, one, other, thing)
            certificate = judge_alike(2, one, other)
            for word in (certificate, ("stile", (0, 0), 1, 1, 0), ("stile", (0, 1), 1, 0, 1), ("ends", end_of(2, one), end_of(2, other)), ("alike",)):
                for thing in near_misses(chance, word, 300):
                    self.assertIs(alike_holds(2, one, other, thing), self.is_right(2, one, other, thing), (one, other, thing))

    def test_no_scripts(self):
        for r in range(1, 5):
            for thing in no_scripts(r)[::4]:
                for function, more in ((are_alike, ()), (judge_alike, ()), (alike_holds, (("alike",),)), (alike_in, ((0, 0),)), (alike_in, ([],))):
                    self.refuses(BadScript(thing), function, r, thing, 1, *more)
                    self.refuses(BadScript(thing), function, r, ("again", FAR, 1), thing, *more)
                    self.refuses(BadScript(thing), function, r, thing, (), *more)


def halls(r):
    widths = [width for width in (1, 2, 3, 4, 5, 6, 7, 9, 12, 15, 100, 250) if width ** r <= 250]
    return [(width, figures) for width in [0] + widths for figures in (0, 2, 3, 10, 10 ** 9)]


class AlikeInHalls(Case):

    def by_walking(self, r, one, other, hall):
        """Whether two scripts are alike in a hall, by walking there."""
        width, figures = hall
        told = []
        for script in (one, other):
            numbers = {}
            room = (0,) * r
            for step in row_of(r, script):
                ahead = tuple(item + (step > 0) - (step < 0) if k == abs(step) else item for k, item in enumerate(room, 1))
                if width:
                    ahead = tuple(item % width for item in ahead)
                passage = (room, step) if step > 0 else (ahead, -step)
                numbers[passage] = numbers.get(passage, 0) + (1 if step > 0 else -1)
                room = ahead
            if figures:
                numbers = {passage: number % figures for passage, number in numbers.items()}
            told.append((room, {passage: number for passage, number in numbers.items() if number}))
        return told[0] == told[1]

    def test_short_scripts(self):
        chance = Random(55)
        seen = {}
        for r in range(1, 5):
            found = 0
            while found < 50:
                one = some_script(chance, r, 3)
                other = chance.choice((some_script(chance, r, 3), written_otherwise(chance, r, one), ("again", 3, one), ("row", one, one)))
                if max(length_of(r, one), length_of(r, other)) > 150 or repr((one, other)).count("again") > 8:
                    continue
                found += 1
                for hall in halls(r):
                    right = self.by_walking(r, one, other, hall)
                    self.assertIs(alike_in(r, one, other, hall), right, (r, one, other, hall))
                    key = (bool(hall[0]), bool(hall[1]), right)
                    seen[key] = seen.get(key, 0) + 1
        self.assertEqual(len(seen), 8)
        self.assertGreater(min(seen.values()), 50)

    def test_plain_pairs(self):
        for r in range(1, 5):
            for n in (1, 2, 5):
                for hall in halls(r):
                    width, figures = hall
                    one, other = ("again", n * 60 * FAR, 1), ("row",)
                    # So many rounds leave the same number at each stile of the line.
                    alike = width != 0 and 60 * FAR % width == 0 and figures != 0 and n * 60 * FAR // width % figures == 0
                    self.same(alike_in(r, one, other, hall), alike)
        loops = ("again", FAR, LOOP)
        for p in (2, 3, 5, 10, 10 ** 9, 7, 999999937):
            self.tells(FAR % p == 0, alike_in, 2, loops, ("row",), (0, p))
            self.tells(FAR % p == 0, alike_in, 2, loops, ("row",), (3, p))
            self.tells((FAR - 1) % p == 0, alike_in, 2, loops, LOOP, (0, p))
            self.tells(True, alike_in, 2, loops, LOOP, (1, p))
        self.tells(True, alike_in, 2, loops, LOOP, (1, 0))
        self.tells(False, alike_in, 2, loops, LOOP, (2, 0))
        self.tells(False, alike_in, 2, loops, LOOP, (0, 0))

    def test_figures_in_plain_halls(self):
        """A long block that differs by multiples of the figures."""
        for p in (2, 3, 10 ** 9):
            block = ("row", 1, 2, ("again", p, LOOP))
            self.tells(True, alike_in, 2, ("again", FAR, block), ("again", FAR, ("row", 1, 2)), (0, p))
            self.tells(False, alike_in, 2, ("again", FAR, block), ("again", FAR, ("row", 1, 2)), (0, p + 1))
            self.tells(False, alike_in, 2, ("again", FAR, block), ("again", FAR, ("row", 1, 2)), (0, 0))
            self.tells(False, alike_in, 2, ("again", FAR, block), ("again", FAR - 1, ("row", 1, 2)), (0, p))

    def test_alike_everywhere(self):
        chance = Random(56)
        for r in range(1, 5):
            found = 0
            while found < 20:
                one = far_script(chance, r, 4)
                other = written_otherwise(chance, r, one)
                if repr(other).count("again") > 5:
                    continue
                found += 1
                for hall in halls(r)[::2]:
                    self.assertIs(alike_in(r, one, other, hall), True, (r, one, other, hall))

    def test_as_the_rolled_shows(self):
        chance = Random(57)
        for r in range(1, 5):
            found = 0
            while found < 25:
                one, other = far_script(chance, r, 3), far_script(chance, r, 3)
                if chance.random() < 0.5:
                    other = ("row", one, ("again", chance.choice((6, 60, FAR)), 1))
                if repr((one, other)).count("again") > 5:
                    continue
                found += 1
                for hall in halls(r):
                    if hall[0]:
                        ends = [tuple(item % hall[0] for item in end_of(r, script)) for script in (one, other)]
                        shows = [rolled_show(r, script, hall) for script in (one, other)]
                        self.assertIs(alike_in(r, one, other, hall), ends[0] == ends[1] and shows[0] == shows[1])

    def test_no_halls(self):
        wrong = NOTHING + ((), (0,), (1,), (-1, 0), (-1, 2), (0, 1), (5, 1), (3, -1), (3, -2), (0, -1), (True, 0), (False, 0),
                           (3, True), (3, False), (0, 0, 0), (3, 2, 1), [0, 0], [3, 2], (None, 0), (3, None), ("3", 2), (3, "2"),
                           ((3,), 2), (3, (2,)), (-10 ** 39, 0), (0, -10 ** 9))
        for thing in wrong:
            if thing != (0, 0) or type(thing[0]) is bool:
                self.refuses(BadHall(thing), alike_in, 1, 1, 1, thing)
                self.refuses(BadHall(thing), alike_in, 2, 1, ("again", FAR, 2), thing)


if __name__ == "__main__":
    unittest.main()
