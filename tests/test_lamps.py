"""Part 12: a line of lamps."""

import unittest
from math import gcd
from random import Random

from stilewalks.errors import BadLetters, BadNumber, BadShow
from stilewalks.lamps import (are_lamps_led, fewest_letters, form_of, is_form, is_lamp_row, judge_lamps_led, lamp_part, lamps_led_hold,
                              shortest_lamp_row)
from tests.helping import NOTHING, Case, listed, near_misses

NO_STANDINGS = tuple(thing for thing in NOTHING if type(thing) is not int or thing != 5) + (0, 1, -2, 1001, 10 ** 39, True, "2", (2,), [2])
NO_LETTERS = NOTHING + ((3,), (0,), (-3,), (True,), (1, True), (1, "2"), [1, 2], 1, 2, (1, None), (1, (2,)), ((1,),), (1, 10 ** 39))
NO_PARTS = NOTHING + (0, -1, -10 ** 6, True, False, "1", (1,), [2])


def lit(p, row):
    """The form of a lamp row, letter by letter."""
    room, lamps = 0, {}
    for letter in row:
        if letter in (1, -1):
            room += letter
        else:
            lamps[room] = (lamps.get(room, 0) + (1 if letter == 2 else -1)) % p
    return room, tuple((place, lamps[place]) for place in sorted(lamps) if lamps[place])


def undone(row):
    return tuple(-letter for letter in row[::-1])


def some_lamp_row(chance, most):
    straight = chance.random() < 0.5
    letters = (1, 1, 1, 2, -2) if straight else (1, -1, 2, -2)
    if straight and chance.random() < 0.5:
        letters = (-1, -1, 2, -2, 2)
    return tuple(chance.choice(letters) for _ in range(chance.randint(0, most)))


def fold_by_hand(p, form):
    size = abs(form[0])
    return tuple(sum(standing for room, standing in form[1] if room % size == j) % p for j in range(size))


def turnings(fold):
    return [fold[k:] + fold[:k] for k in range(len(fold))]


def forms_within(p, most):
    """For each form of a lamp row of at most so many letters the fewest letters with it."""
    fewest = {}
    states = {(0, ())}
    for letters in range(most + 1):
        for form in states:
            fewest.setdefault(form, letters)
        after = set()
        for room, lamps in states:
            after.add((room + 1, lamps))
            after.add((room - 1, lamps))
            for by in (1, -1):
                numbers = dict(lamps)
                numbers[room] = (numbers.get(room, 0) + by) % p
                after.add((room, tuple((place, numbers[place]) for place in sorted(numbers) if numbers[place])))
        states = after - set(fewest)
    return fewest


def right_form(p, thing):
    if type(thing) is not tuple or len(thing) != 2 or type(thing[0]) is not int or type(thing[1]) is not tuple:
        return False
    for pair in thing[1]:
        if type(pair) is not tuple or len(pair) != 2 or type(pair[0]) is not int or type(pair[1]) is not int or not 1 <= pair[1] < p:
            return False
    rooms = [room for room, _ in thing[1]]
    return rooms == sorted(set(rooms))


class Forms(Case):

    def test_lamp_rows(self):
        for row in ((), (1,), (-2, 2, 1, -1), (1, 2) * 30):
            self.tells(True, is_lamp_row, row)
        for thing in NO_LETTERS:
            # Some rows of steps are lamp rows, too.
            right = type(thing) is tuple and all(type(letter) is int and letter in (1, -1, 2, -2) for letter in thing)
            self.tells(right, is_lamp_row, thing)

    def test_forms(self):
        self.tells((1, ((0, 1), (1, 2), (2, 2))), form_of, 3, (2, 1, 2, 2, 1, -2, -1))
        self.tells((0, ()), form_of, 2, ())
        self.tells((0, ()), form_of, 2, (2, 2))
        self.tells((0, ((0, 998),)), form_of, 1000, (-2, -2))
        self.tells((0, ()), form_of, 60, (2,) * 60)
        self.tells((0, ((0, 59),)), form_of, 61, (2,) * 59)
        self.tells((-60, ()), form_of, 5, (-1,) * 60)
        chance = Random(211)
        for p in (2, 3, 4, 5, 12, 999, 1000):
            for _ in range(60):
                row = some_lamp_row(chance, 60)
                self.same(form_of(p, row), lit(p, row))
                self.assertIs(is_form(p, form_of(p, row)), True)
                self.same(form_of(p, row + undone(row)), (0, ()))
            self.tells(lit(p, row), form_of, p, row)

    def test_is_form(self):
        chance = Random(212)
        for p in (2, 3, 1000):
            for form in ((0, ()), (-1000, ((-1000, 1), (1000, p - 1))), (5, tuple((k, 1) for k in range(40)))):
                self.tells(True, is_form, p, form)
                for thing in near_misses(chance, form, 100):
                    self.assertIs(is_form(p, thing), right_form(p, thing), thing)
            for thing in NOTHING + ((0,), (0, (), ()), ((), 0), [0, ()], (0, []), (True, ()), ("0", ()), (None, ()), (0, ((0, 0),)), (0, ((0, p),)),
                                    (0, ((0, -1),)), (0, ((0, True),)), (0, ((True, 1),)), (0, ((0, 1), (0, 1))), (0, ((1, 1), (0, 1))), (0, ([0, 1],)),
                                    (0, ((0, 1, 1),)), (0, ((0,),)), (0, (0, 1)), (0, ((0, 10 ** 39),)), (0, (((0,), 1),))):
                self.tells(False, is_form, p, thing)

    def test_errors(self):
        for thing in NO_STANDINGS:
            self.refuses(BadNumber(thing), is_form, thing, (0, ()))
            self.refuses(BadNumber(thing), is_form, thing, None)
            for row in ((1, 2), None):
                self.refuses(BadNumber(thing), form_of, thing, row)
                self.refuses(BadNumber(thing), judge_lamps_led, thing, row, row)
                self.refuses(BadNumber(thing), are_lamps_led, thing, row, ())
                self.refuses(BadNumber(thing), lamps_led_hold, thing, row, row, ("row", ()))
                for n in (1, 0, None):
                    self.refuses(BadNumber(thing), lamp_part, thing, row, n)
            for form in ((0, ()), None):
                self.refuses(BadNumber(thing), fewest_letters, thing, form)
                self.refuses(BadNumber(thing), shortest_lamp_row, thing, form)
        for p in (2, 5, 1000):
            for thing in NO_LETTERS:
                if type(thing) is tuple and all(type(letter) is int and letter in (1, -1, 2, -2) for letter in thing):
                    continue
                self.refuses(BadLetters(thing), form_of, p, thing)
                for function in (judge_lamps_led, are_lamps_led):
                    self.refuses(BadLetters(thing), function, p, thing, (1,))
                    self.refuses(BadLetters(thing), function, p, (1,), thing)
                    self.refuses(BadLetters(thing), function, p, thing, None)
                self.refuses(BadLetters(thing), lamps_led_hold, p, thing, (1,), ("row", ()))
                self.refuses(BadLetters(thing), lamps_led_hold, p, (1,), thing, None)
                self.refuses(BadLetters(thing), lamps_led_hold, p, thing, [1], thing)
                for n in (1, 0, None):
                    self.refuses(BadLetters(thing), lamp_part, p, thing, n)
            for thing in NO_PARTS:
                if type(thing) is not int or thing < 1:
                    self.refuses(BadNumber(thing), lamp_part, p, (1, 2), thing)
                    self.refuses(BadNumber(thing), lamp_part, p, (), thing)
            for thing in NOTHING + ((0, ((0, p),)), (0, []), (True, ()), (0,), (0, ((1, 1), (0, 1)))) + tuple(listed((1, ((0, 1), (1, 1))))):
                self.refuses(BadShow(thing), fewest_letters, p, thing)
                self.refuses(BadShow(thing), shortest_lamp_row, p, thing)


class Fewest(Case):

    def check(self, p, form, letters=None):
        told = fewest_letters(p, form)
        row = shortest_lamp_row(p, form)
        self.assertIs(is_lamp_row(row), True)
        self.assertEqual(lit(p, row), form)
        self.assertEqual(len(row), told)
        if letters is not None:
            self.assertEqual(told, letters, (p, form))
        self.same(shortest_lamp_row(p, form), row)

    def test_all_rows(self):
        """Against a search over all short lamp rows."""
        for p, most in ((2, 12), (3, 10), (4, 9), (5, 9), (7, 9), (1000, 8)):
            for form, letters in forms_within(p, most).items():
                self.check(p, form, letters)

    def test_plain(self):
        self.tells(6, fewest_letters, 3, (1, ((0, 1), (1, 2), (2, 2))))
        self.tells(8, fewest_letters, 2, (0, ((-1, 1), (2, 1))))
        self.tells(0, fewest_letters, 2, (0, ()))
        self.tells((), shortest_lamp_row, 2, (0, ()))
        self.tells(1000, fewest_letters, 2, (-1000, ()))
        self.tells((1,) * 7, shortest_lamp_row, 9, (7, ()))
        self.tells(500, fewest_letters, 1000, (0, ((0, 500),)))
        self.tells(499, fewest_letters, 1000, (0, ((0, 501),)))
        self.tells((-2,), shortest_lamp_row, 1000, (0, ((0, 999),)))
        self.tells(3002, fewest_letters, 2, (1000, ((-1000, 1), (1000, 1))))
        self.tells(3002, fewest_letters, 2, (-1000, ((-1000, 1), (1000, 1))))
        self.tells(4002, fewest_letters, 2, (0, ((-1000, 1), (1000, 1))))

    def test_great(self):
        chance = Random(213)
        for p in (2, 3, 999, 1000):
            for size in (5, 50, 1000):
                for _ in range(25):
                    rooms = sorted({chance.randint(-size, size) for _ in range(chance.randint(0, 40))})
                    form = (chance.randint(-size, size), tuple((room, chance.randint(1, p - 1)) for room in rooms))
                    self.check(p, form)
                    a, b, end = min([0] + rooms), max([0] + rooms), form[0]
                    ways = -a + (max(b, end) - a) + (max(b, end) - end), b + (b - min(a, end)) + (end - min(a, end))
                    self.assertEqual(fewest_letters(p, form), min(ways) + sum(min(standing, p - standing) for _, standing in form[1]))

    def test_not_more(self):
        chance = Random(214)
        for p in (2, 3, 10):
            for _ in range(100):
                row = some_lamp_row(chance, 60)
                self.assertLessEqual(fewest_letters(p, lit(p, row)), len(row))


def led_by_hand(p, one, other):
    """Whether some lamp row leads one to other, told by forms alone."""
    form, goal = lit(p, one), lit(p, other)
    if form[0] != goal[0]:
        return False
    if form[0]:
        return fold_by_hand(p, goal) in turnings(fold_by_hand(p, form))
    if not form[1] or not goal[1]:
        return form[1] == goal[1]
    by = goal[1][0][0] - form[1][0][0]
    return tuple((room + by, standing) for room, standing in form[1]) == goal[1]


def is_right(p, one, other, thing):
    if type(thing) is not tuple or len(thing) < 2:
        return False
    form, goal = lit(p, one), lit(p, other)
    if thing[0] == "row":
        right = len(thing) == 2 and type(thing[1]) is tuple and all(type(letter) is int and letter in (1, -1, 2, -2) for letter in thing[1])
        return right and lit(p, thing[1] + one + undone(thing[1])) == goal
    if thing[0] == "ends":
        return form[0] != goal[0] and repr(thing[1:]) == repr((form[0], goal[0]))
    if form[0] != goal[0] or led_by_hand(p, one, other):
        return False
    if thing[0] == "lamps":
        return form[0] == 0 and repr(thing[1:]) == repr((form[1], goal[1]))
    return thing[0] == "folds" and form[0] != 0 and repr(thing[1:]) == repr((fold_by_hand(p, form), fold_by_hand(p, goal)))


class Led(Case):

    def check(self, p, one, other):
        certificate = judge_lamps_led(p, one, other)
        self.assertIs(is_right(p, one, other, certificate), True, (p, one, other, certificate))
        self.assertIs(lamps_led_hold(p, one, other, certificate), True)
        self.same(judge_lamps_led(p, one, other), certificate)
        led = led_by_hand(p, one, other)
        self.assertIs(are_lamps_led(p, one, other), led)
        self.assertEqual(certificate[0] == "row", led)
        form, goal = lit(p, one), lit(p, other)
        others = [("ends", form[0], goal[0]), ("lamps", form[1], goal[1]), ("ends", goal[0], form[0]), ("lamps", goal[1], form[1])]
        if form[0]:
            others.append(("folds", fold_by_hand(p, form), fold_by_hand(p, goal) if goal[0] else ()))
        for thing in others:
            self.assertIs(lamps_led_hold(p, one, other, thing), is_right(p, one, other, thing), (p, one, other, thing))
        return certificate

    def test_led(self):
        """A row, done around a lamp row, leads it to what comes out."""
        chance = Random(215)
        for p in (2, 3, 4, 10, 1000):
            for _ in range(100):
                one, ahead = some_lamp_row(chance, 30), some_lamp_row(chance, 15)
                other = ahead + one + undone(ahead)
                self.assertEqual(self.check(p, one, other)[0], "row")
                self.assertIs(lamps_led_hold(p, one, other, ("row", ahead)), True)
                self.assertIs(lamps_led_hold(p, one, other, ("row", ahead + (2, -2))), True)
                self.assertIs(lamps_led_hold(p, one, other, ("row", ahead + (2,))), is_right(p, one, other, ("row", ahead + (2,))))

    def test_all_kinds(self):
        chance = Random(216)
        found = {}
        for p in (2, 3, 4, 1000):
            for most in (4, 10, 60):
                for _ in range(120):
                    one = some_lamp_row(chance, most)
                    other = list(one)
                    for _ in range(chance.randint(0, 3)):
                        other.insert(chance.randint(0, len(other)), chance.choice((2, -2)))
                    if chance.random() < 0.3:
                        chance.shuffle(other)
                    word = self.check(p, one, tuple(other[:60]))[0]
                    found[word] = found.get(word, 0) + 1
                    word = self.check(p, one, some_lamp_row(chance, most))[0]
                    found[word] = found.get(word, 0) + 1
        self.assertEqual(sorted(found), ["ends", "folds", "lamps", "row"])
        self.assertGreater(min(found.values()), 60)

    def test_turnings(self):
        """Ends above and below 0, folds turned round by each number of rooms."""
        chance = Random(217)
        for p in (2, 5):
            for end in (-7, -6, -2, -1, 1, 2, 3, 6, 7):
                step = (1,) if end > 0 else (-1,)
                for by in range(abs(end)):
                    marks = [chance.choice(((), (2,), (-2,), (2, 2))) for _ in range(abs(end))]
                    one, other = ((sum((mark + step for mark in line), ())) for line in (marks, marks[by:] + marks[:by]))
                    self.assertEqual(self.check(p, one, other)[0], "row")
                    self.assertEqual(self.check(p, other, one)[0], "row")
                    more = other + (2,)
                    self.assertEqual(self.check(p, one, more)[0], "folds")

    def test_plain(self):
        self.tells(True, are_lamps_led, 2, (2, 1), (1, 2))
        self.tells(("folds", (1, 0), (1, 1)), judge_lamps_led, 2, (2, 1, 1), (2, 1, 2, 1))
        self.tells(True, lamps_led_hold, 2, (2, 1), (1, 2), ("row", (1,)))
        self.tells(("ends", 0, 1), judge_lamps_led, 2, (2,), (2, 1))
        self.tells(("lamps", ((0, 1),), ()), judge_lamps_led, 2, (2,), ())
        self.tells(("lamps", (), ((1, 1),)), judge_lamps_led, 3, (), (1, 2, -1))
        self.tells(True, are_lamps_led, 3, (2,), (1, 1, 2, -1, -1))
        self.tells(True, are_lamps_led, 3, (), ())
        self.tells(False, are_lamps_led, 3, (2,), (-2,))
        self.tells(True, are_lamps_led, 2, (2,), (-2,))
        # Lamps far from one another, with the same end: one lamp is carried along.
        far = (1,) * 25 + (2,) + (-1,) * 24
        self.assertEqual(self.check(2, (2, 1), far)[0], "row")
        self.assertEqual(self.check(2, far, (2, 1))[0], "row")

    def test_any_certificate(self):
        chance = Random(218)
        cases = [(2, (2, 1), (1, 2)), (2, (2, 1, 1), (2, 1, 2, 1)), (3, (2,), (1, 2, -1)), (3, (2,), (-2,)), (5, (2, -1, 2), (1, 2)), (2, (), ()), (2, (1, 1), (1, 1)),
                 (3, (-1, 2, -1), (-1, -2, -1)), (2, (), (2,)), (2, (1,), (2, 1))]
        for p, one, other in cases:
            form, goal = lit(p, one), lit(p, other)
            words = [judge_lamps_led(p, one, other), ("row", (1,)), ("ends", form[0], goal[0]), ("lamps", form[1], goal[1]), ("lamps", ((0, 1),), ()), ("folds", (1, 0), (1, 1)),
                     ("folds", (1,), (1,)), ("ends", 0, 1), ("ends", False, True), ("folds", (True, False), (True, True)), ("folds", (), ()), ("lamps", (), ())]
            for thing in NOTHING + tuple(words) + ("row", ("row",), ("ends",), ("ends", 0), ("lamps",), ("folds",), ("row", None), ("row", [1]), ("row", (3,)), ("row", (True,)),
                                                   ("row", (), ()), ("ends", None, None), ("folds", None, None), ("lamps", None, None), ("lamps", [], []), ({}, ()),
                                                   ("folds", [1, 0], [1, 1])):
                self.assertIs(lamps_led_hold(p, one, other, thing), is_right(p, one, other, thing), (p, one, other, thing))
            for word in words:
                for thing in near_misses(chance, word, 40):
                    self.assertIs(lamps_led_hold(p, one, other, thing), is_right(p, one, other, thing), (p, one, other, thing))
        self.told(judge_lamps_led, 7, (2, 1, 1), (1, 2, 1))


def part_by_hand(p, row, n):
    """Whether a lamp row has an n-th part, word by word as [12.4] tells it."""
    end, lamps = lit(p, row)
    if end == 0:
        return all(standing % gcd(n, p) == 0 for _, standing in lamps)
    if end % n:
        return False
    fold, by = fold_by_hand(p, (end, lamps)), end // n
    return all(fold[j] == fold[(j - by) % len(fold)] for j in range(len(fold)))


class Parts(Case):

    def check(self, p, row, n):
        part = lamp_part(p, row, n)
        self.same(lamp_part(p, row, n), part)
        self.assertEqual(part is not None, part_by_hand(p, row, n), (p, row, n))
        if part is None:
            return False
        self.assertIs(is_lamp_row(part), True)
        form = lit(p, part)
        if n <= 60:
            self.assertEqual(lit(p, part * n), lit(p, row))
        elif lit(p, row)[0] == 0:
            self.assertEqual(form[0], 0)
            self.assertEqual(tuple((room, n * standing % p) for room, standing in form[1] if n * standing % p), lit(p, row)[1])
        return True

    def test_repeats(self):
        chance = Random(219)
        for p in (2, 3, 4, 6, 1000):
            for n in range(1, 11):
                for _ in range(20):
                    block = some_lamp_row(chance, 60 // n)
                    row = block * n
                    self.assertTrue(self.check(p, row, n))
                    if lit(p, row)[0]:
                        # With an end other than 0 all n-th parts are alike.
                        self.assertEqual(lit(p, lamp_part(p, row, n)), lit(p, block))
                    self.check(p, row, n + 1)
                    self.check(p, row, 2 * n)
                    self.check(p, row + (2,), n)

    def test_plain(self):
        self.assertEqual(lit(2, self.told(lamp_part, 2, (2, 1, 2, 1), 2)), (1, ((0, 1),)))
        self.tells(None, lamp_part, 2, (2, 1, 1), 2)
        self.tells(None, lamp_part, 2, (2,), 2)
        self.assertEqual(lit(4, self.told(lamp_part, 4, (2, 1, -1), 3)), (0, ((0, 3),)))
        self.tells((1,), lamp_part, 2, (1, 1, 1), 3)
        self.tells((-1,), lamp_part, 2, (-1, -1, -1), 3)
        self.tells(None, lamp_part, 2, (-1, -1, -1), 2)
        self.tells((), lamp_part, 2, (), 10 ** 6)

    def test_end_zero(self):
        chance = Random(220)
        found = {True: 0, False: 0}
        for p in (2, 3, 4, 6, 12, 997, 1000):
            for n in (1, 2, 3, 4, 5, 6, 12, 60, 997, 998, 1000, 10 ** 6 - 1, 10 ** 6):
                for _ in range(6):
                    ahead = some_lamp_row(chance, 20)
                    times = chance.choice((1, 2, 6, 12))
                    row = ahead + (chance.choice((2, -2)),) * times + undone(ahead)
                    found[self.check(p, row, n)] += 1
                    lone = tuple(letter for letter in some_lamp_row(chance, 28) if abs(letter) == 2)
                    found[self.check(p, lone, n)] += 1
        self.assertGreater(min(found.values()), 100)

    def test_other_ends(self):
        chance = Random(221)
        found = {True: 0, False: 0}
        for p in (2, 3, 1000):
            for end in (-12, -6, -4, -1, 1, 2, 3, 6, 8, 12):
                step = 1 if end > 0 else -1
                for n in (1, 2, 3, 4, 6, 12, 10 ** 6):
                    for _ in range(6):
                        marks = [chance.choice(((), (), (2,))) for _ in range(abs(end))]
                        if n <= abs(end) and chance.random() < 0.6:
                            marks = marks[:abs(end) // n] * n
                        row = sum((mark + (step,) for mark in marks), ())
                        # The same, with a lamp carried somewhere along the end and back.
                        if lit(p, row)[0] and len(row) < 25 and chance.random() < 0.5:
                            row = (2,) + row + (-2,)
                        found[self.check(p, row, n)] += 1
        self.assertGreater(min(found.values()), 100)


if __name__ == "__main__":
    unittest.main()
