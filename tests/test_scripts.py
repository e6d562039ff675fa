"""Part 1, [1.2]: scripts, their ends, lengths and rows."""

import unittest
from random import Random

from stilewalks.errors import BadScript, TooLong
from stilewalks.scripts import end_of, is_script, length_of, row_end, row_of, script_text
from tests.helping import NOTHING, Case

FAR = 10 ** 30


def some_script(chance, r, depth):
    """A script of all kinds, perhaps long."""
    kind = chance.randint(0, 5) if depth else 0
    if kind < 2:
        return chance.choice((1, -1)) * chance.randint(1, r)
    parts = [some_script(chance, r, depth - 1) for _ in range(2)]
    if kind == 2:
        return ("row",) + tuple(some_script(chance, r, depth - 1) for _ in range(chance.randint(0, 3)))
    if kind == 3:
        return ("again", chance.randint(0, 4), parts[0])
    if kind == 4:
        return ("back", parts[0])
    return ("around", parts[0], parts[1])


def steps_of(script):
    """The list of the steps of a script, done one by one."""
    if isinstance(script, int):
        return [script]
    word, *parts = script
    if word == "row":
        return [step for part in parts for step in steps_of(part)]
    if word == "again":
        return [step for _ in range(parts[0]) for step in steps_of(parts[1])]
    ahead = steps_of(parts[0])
    back = [-ahead[k] for k in range(len(ahead) - 1, -1, -1)]
    if word == "back":
        return back
    return ahead + steps_of(parts[1]) + back


def no_scripts(r):
    wrong = list(NOTHING)
    wrong += [r + 1, -r - 1, 0, True, (), (1,), (1, 1), ("row", r + 1), ("row", 1, -r - 1), ("row", 0), ("row", False)]
    wrong += [("again",), ("again", 2), ("again", 1, 1, 1), ("again", -1, 1), ("again", -FAR, 1), ("again", True, 1),
              ("again", False, 1), ("again", None, 1), ("again", "2", 1), ("again", (2,), 1), ("again", 1, ("row",), 1),
              ("again", 2, r + 1), ("again", 0, 0), ("again", 2, (1, 1)), ("again", 2, True), ["again", 2, 1],
              ("again", 1, "row"), ("again", ("row",), 2), ("again", [], 1)]
    wrong += [("back",), ("back", 1, 1), ("back", 0), ("back", -r - 1), ("back", True), ("back", (1,)), ("back", [1])]
    wrong += [("around",), ("around", 1), ("around", 1, 1, 1), ("around", 1, 0), ("around", 0, 1), ("around", True, 1),
              ("around", 1, True), ("around", ("row",), r + 1), ("around", r + 1, ("row",)), ["around", 1, 1]]
    wrong += [("rows", 1), ("Row", 1), ("", 1), (" row", 1), ("row ", 1), (None, 1), (True, 1), (["row"], 1),
              (("row",), 1), ({}, 1), ("ro", 1), ("aroundback", 1, 1), ("done", 1), ("row 1",), (1, "row")]
    # The whole value is passed on, also if only one part of it is wrong and the rest is far too long.
    wrong += [("row", ("again", FAR, 1), r + 1), ("row", 0, ("again", FAR, 1)), ("again", FAR, ("row", 1, ("back",))),
              ("again", FAR, ("around", 1, [1])), ("again", 0, ("row", 1, None)), ("around", ("again", FAR, 1), True),
              ("row", ("row", ("row", ("back", ("back", ("again", FAR, ("around", 1, ("again", True, 1))))))))]
    return wrong


class Scripts(Case):

    def test_every_kind(self):
        for r in range(1, 5):
            for s in (1, -1, r, -r, ("row",), ("row", 1), ("row", 1, -r, ("row", ("row",))), ("again", 0, 1),
                      ("again", 1, -r), ("again", FAR, 1), ("again", FAR, ("row",)), ("back", r), ("back", ("row",)),
                      ("around", 1, r), ("around", ("row",), ("row",)), ("around", ("again", FAR, 1), ("back", -1)),
                      ("row",) + (1,) * 39, ("again", 10 ** 39, ("again", 0, ("row",)))):
                self.tells(True, is_script, r, s)

    def test_of_other_numbers_of_directions(self):
        for r in range(1, 5):
            for step in range(1, 6):
                for s in (step, -step, ("row", step), ("row", 1, -step), ("again", 2, step), ("again", 0, -step),
                          ("back", step), ("around", step, 1), ("around", 1, -step), ("back", ("row", 1, ("back", step)))):
                    self.tells(step <= r, is_script, r, s)

    def test_no_scripts(self):
        for r in range(1, 5):
            for thing in no_scripts(r):
                self.tells(False, is_script, r, thing)
                for function in (end_of, length_of, script_text, row_of):
                    self.refuses(BadScript(thing), function, r, thing)

    def test_steps(self):
        for r in range(1, 5):
            for step in range(1, r + 1):
                for s in (step, -step):
                    self.tells((s,), row_of, r, s)
                    self.tells(1, length_of, r, s)
                    self.tells(row_end(r, (s,)), end_of, r, s)

    def test_small_ones(self):
        for s, row in (
            (("row",), ()), (("row", 1), (1,)), (("row", 1, 2, -1), (1, 2, -1)), (("row", ("row", 2), 1, ("row",)), (2, 1)),
            (("again", 0, 1), ()), (("again", 1, 2), (2,)), (("again", 3, ("row", 1, 2)), (1, 2, 1, 2, 1, 2)),
            (("back", 2), (-2,)), (("back", ("row", 1, 2, 2)), (-2, -2, -1)), (("back", ("row",)), ()),
            (("back", ("back", ("row", 1, 2))), (1, 2)), (("around", 1, 2), (1, 2, -1)),
            (("around", ("row", 1, 2), -1), (1, 2, -1, -2, -1)), (("around", ("row",), 2), (2,)),
            (("around", 1, ("row",)), (1, -1)), (("around", ("around", 1, 2), 1), (1, 2, -1, 1, 1, -2, -1)),
            (("again", 2, ("around", 1, ("again", 2, ("back", 2)))), (1, -2, -2, -1, 1, -2, -2, -1)),
            (("back", ("again", 2, ("row", 1, 2))), (-2, -1, -2, -1)),
        ):
            self.tells(row, row_of, 2, s)
            self.tells(len(row), length_of, 2, s)
            self.tells(row_end(2, row), end_of, 2, s)

    def test_many_scripts(self):
        chance = Random(12)
        for r in range(1, 5):
            for _ in range(150):
                script = some_script(chance, r, 4)
                row = tuple(steps_of(script))
                self.tells(True, is_script, r, script)
                self.tells(len(row), length_of, r, script)
                self.tells(row_end(r, row), end_of, r, script)
                if len(row) <= 400:
                    self.tells(row, row_of, r, script)
                else:
                    self.refuses(TooLong(len(row)), row_of, r, script)

    def test_far_ones(self):
        three = ("again", FAR, ("again", FAR, ("again", FAR, ("row", 1, 1, -2))))
        for s, length, end in (
            (("again", FAR, 1), FAR, (FAR, 0)),
            (("again", FAR, ("row", 1, 2, -1)), 3 * FAR, (0, FAR)),
            (three, 3 * FAR ** 3, (2 * FAR ** 3, -FAR ** 3)),
            (("back", three), 3 * FAR ** 3, (-2 * FAR ** 3, FAR ** 3)),
            (("around", three, -1), 6 * FAR ** 3 + 1, (-1, 0)),
            (("around", 2, three), 3 * FAR ** 3 + 2, (2 * FAR ** 3, -FAR ** 3)),
            (("row", three, ("back", three), 2), 6 * FAR ** 3 + 1, (0, 1)),
            (("again", FAR - 1, ("again", FAR - 3, 2)), (FAR - 1) * (FAR - 3), (0, (FAR - 1) * (FAR - 3))),
        ):
            self.tells(True, is_script, 2, s)
            self.tells(length, length_of, 2, s)
            self.tells(end, end_of, 2, s)
            self.refuses(TooLong(length), row_of, 2, s)

    def test_far_ones_without_steps(self):
        far = ("again", FAR, ("again", FAR, ("again", FAR, 1)))
        for s in (("again", FAR, ("row",)), ("again", 0, ("again", FAR, 1)), ("again", 0, far), ("again", FAR, ("again", 0, far)),
                  ("again", FAR, ("again", FAR, ("again", FAR, ("back", ("row", ("row",)))))),
                  ("back", ("again", FAR, ("around", ("row",), ("again", 0, far)))),
                  ("row", ("again", FAR, ("row",)), ("again", 0, far))):
            self.tells((), row_of, 2, s)
            self.tells(0, length_of, 2, s)
            self.tells((0, 0), end_of, 2, s)
        mixed = ("again", 2, ("row", 1, ("again", 0, far), ("again", FAR, ("row",)), ("around", 2, ("again", 0, far))))
        self.tells((1, 2, -2, 1, 2, -2), row_of, 2, mixed)

    def test_longest_rows(self):
        for s, row in (
            (("again", 399, 1), (1,) * 399), (("again", 400, -1), (-1,) * 400), (("back", ("again", 400, 1)), (-1,) * 400),
            (("again", 1, ("again", 400, 1)), (1,) * 400), (("again", 200, ("row", 1, -1)), (1, -1) * 200),
            (("row", ("again", 399, 1), -1), (1,) * 399 + (-1,)),
            (("around", ("again", 199, 1), ("row", -1, -1)), (1,) * 199 + (-1, -1) + (-1,) * 199),
            (("around", ("again", 199, 1), 1), (1,) * 200 + (-1,) * 199),
        ):
            self.tells(row, row_of, 1, s)
            self.tells(len(row), length_of, 1, s)
        for s, length in (
            (("again", 401, 1), 401), (("back", ("again", 401, 1)), 401), (("again", 201, ("row", 1, -1)), 402),
            (("row", ("again", 400, 1), -1), 401), (("around", ("again", 200, 1), 1), 401),
            (("row", ("again", 0, 1), ("again", 401, 1)), 401), (("again", 401, ("again", 1, 1)), 401),
        ):
            self.refuses(TooLong(length), row_of, 1, s)
            self.tells(length, length_of, 1, s)


if __name__ == "__main__":
    unittest.main()
