"""Part 1, [1.3]: the texts of scripts."""

import re
import unittest
from random import Random

from stilewalks.errors import BadText, StileError
from stilewalks.scripts import is_script, read_script, script_text
from tests.helping import NOTHING, Case
from tests.test_scripts import some_script

FAR = 10 ** 30
PAIRS = (
    (1, "1"), (-2, "-2"), (("row",), "(row)"), (("row", 1), "(row 1)"), (("row", 1, -2, 2), "(row 1 -2 2)"),
    (("row", ("row",), ("row", 1)), "(row (row) (row 1))"), (("again", 0, 1), "(again 0 1)"),
    (("again", 3, -2), "(again 3 -2)"), (("again", FAR, ("row",)), "(again 1" + "0" * 30 + " (row))"),
    (("again", 10, ("row", 1, 2)), "(again 10 (row 1 2))"), (("back", 1), "(back 1)"),
    (("back", ("back", -1)), "(back (back -1))"), (("around", 1, 2), "(around 1 2)"),
    (("around", ("row",), ("again", 2, 2)), "(around (row) (again 2 2))"),
    (("around", 1, ("again", 3, 2)), "(around 1 (again 3 2))"), (("row", 1, ("back", -2)), "(row 1 (back -2))"),
    (("row", ("around", ("back", ("again", 5, 1)), ("row",)), 2), "(row (around (back (again 5 1)) (row)) 2)"),
)
# None of these is the text of a script of two directions.
WRONG = (
    "", " ", "  ", "\n", "-", "--1", "0", "3", "-3", "+1", "01", "-0", "-01", "00", "1_0", "1.0", "1e0", "0x1", "(1)",
    " 1", "1 ", "1\n", "\n1", "1 1", "1 2", "1)", "(1", ")", "(", "()", "( )", ")(", "row", "(row", "row)", "row 1",
    "(row))", "((row)", "((row))", "(row) ", " (row)", "(row )", "( row)", "(row\n)", "(row)\n", "(row) 1", "(row)(row)",
    "(row  1)", "(row 1 )", "(row 1  2)", "(row\n1)", "(row 1\n2)", "(row1)", "(row,1)", "(row 1,2)", "(row 1(row))",
    "(row (row)1)", "(row (row)(row))", "(row 1) 2", "(row 1)2", "(row 1))", "((row 1)", "(row (row 1)", "(row 0)",
    "(row 3)", "(row -3)", "(row +1)", "(row 01)", "(row -0)", "(row 1_0)", "(row - 1)", "(row row)", "(row (row)",
    "(ROW 1)", "(Row)", "(rows 1)", "(ro 1)", "(done 1)", "('row', 1)", "('row',)", "[row 1]", "{row}", "(row [1])",
    "(again)", "(again 1)", "(again 1 1 1)", "(again -1 1)", "(again +1 1)", "(again 01 1)", "(again -0 1)",
    "(again 1_0 1)", "(again  1 1)", "(again 1  1)", "(again 2)", "(again (row) 1)", "(again 1 3)", "(again 1 0)",
    "(again 2 (again))", "(again " + "0" * 30 + " 1)", "(again None 1)", "(again True 1)", "(again 2 (row 1)",
    "(back)", "(back 1 1)", "(back 0)", "(back 3)", "(back (back))", "(back back)", "(back(row))",
    "(around)", "(around 1)", "(around 1 1 1)", "(around 1 3)", "(around 0 1)", "(around 1 (row)",
    "1 (row", "1 (row 1", "(row) (row 1", "(row) (row", "1 (back 1", "1 (row (row 1)", "\u0661", "(row \u0661)", "(again \u00b2 1)",
    "(row 1x)", "(row 1)x", "(row 1)x)", "x(row 1)", "((row 1)", "(row 1\t2)", "(row\u00a01)", "True", "None", "(row True)", "(row None)", "(row \t1)", "(row 1;)", "(\"row\" 1)", "#", "(row 1)#", "_", "1_", "_1",
)


def has_text(r, text):
    """Whether a string is the text of a script, by putting @ for inner brackets, one after another."""
    if "@" in text:
        return False
    script = f"(?:-?[1-{r}]|@)"
    bracket = re.compile(rf"\(row(?: {script})*\)|\(again (?:0|[1-9][0-9]*) {script}\)|\(back {script}\)"
                         rf"|\(around {script} {script}\)")
    before = None
    while before != text:
        before = text
        text = bracket.sub("@", text)
    return re.fullmatch(script, text) is not None


def spoilt(text):
    """All strings that come from a text by leaving out, exchanging or putting in one character."""
    for k in range(len(text) + 1):
        for letter in " ()-+0123_\nrowagin":
            yield text[:k] + letter + text[k:]
            yield text[:k] + letter + text[k + 1:]
        yield text[:k] + text[k + 1:]
        yield text[:k] + text[k:k + 1] + text[k:]
        yield text[:k] + text[k + 1:k + 2] + text[k:k + 1] + text[k + 2:]


class Texts(Case):

    def test_pairs(self):
        for script, text in PAIRS:
            self.tells(text, script_text, 2, script)
            self.tells(script, read_script, 2, text)

    def test_many_scripts(self):
        chance = Random(13)
        for r in range(1, 5):
            for _ in range(150):
                script = some_script(chance, r, 4)
                text = self.told(script_text, r, script)
                self.assertTrue(has_text(r, text))
                self.tells(script, read_script, r, text)

    def test_long_text(self):
        script = ("again", FAR, ("row",) + (-4, ("around", 3, ("back", ("again", FAR, 2)))) * 6)
        text = "(again 1" + "0" * 30 + " (row" + (" -4 (around 3 (back (again 1" + "0" * 30 + " 2)))") * 6 + "))"
        self.tells(text, script_text, 4, script)
        self.tells(script, read_script, 4, text)

    def test_wrong_texts(self):
        for text in WRONG:
            self.assertFalse(has_text(2, text))
            self.refuses(BadText(0), read_script, 2, text)

    def test_other_numbers_of_directions(self):
        for r in range(1, 5):
            for step in range(1, 12):
                for text, script in ((f"{step}", step), (f"-{step}", -step), (f"(row 1 {step})", ("row", 1, step)),
                                     (f"(again {step} -{step})", ("again", step, -step)),
                                     (f"(around (back {step}) 1)", ("around", ("back", step), 1))):
                    if step <= r:
                        self.tells(script, read_script, r, text)
                    else:
                        self.refuses(BadText(0), read_script, r, text)

    def test_spoilt_texts(self):
        for r in (1, 2):
            for _, text in PAIRS[:16]:
                for other in sorted(set(spoilt(text))):
                    try:
                        script = read_script(r, other)
                    except StileError as error:
                        self.assertIs(type(error), BadText)
                        self.same(vars(error), {"line": 0})
                        self.assertFalse(has_text(r, other), other)
                    else:
                        self.assertTrue(has_text(r, other), other)
                        self.assertTrue(is_script(r, script), other)
                        self.same(script_text(r, script), other)

    def test_every_character(self):
        text = "(around (again 20 -1) (row 2 (back 1)))"
        for letter in [chr(code) for code in range(32, 127)] + ["\n", "\t", "\u0661"]:
            for k in range(len(text) + 1):
                for other in (text[:k] + letter + text[k:], text[:k] + letter + text[k + 1:]):
                    if has_text(2, other):
                        self.same(script_text(2, read_script(2, other)), other)
                    else:
                        with self.assertRaises(BadText, msg=other):
                            read_script(2, other)

    def test_long_wrong_texts(self):
        for text in ("(" * 2000, ")" * 2000, " " * 2000, "0" * 2000, "-" * 2000, "1" * 2000, "1 " * 1000, "\n" * 2000,
                     "(row " * 400, "(row" * 500, "( " * 1000, "(row (" * 333, "(back " * 333, "(again 2 " * 222,
                     "(around 1 " * 200, "(row " * 399 + "1", "(row" + ")" * 1996, "(row (back (row " * 117 + ")" * 100,
                     "(" * 1999 + "1", "(" * 1000 + ")" * 1000, "(" * 995 + "(row)" + ")" * 1000, "1" + ")" * 1999,
                     "(row 1)" * 285, "(row 1) " * 250, "(row" + " 1" * 997 + " ", "(row" + " 1" * 997 + "))",
                     "(again " + "9" * 1990 + ")", "(again " + "9" * 1900 + " 1) 1"):
            self.assertLessEqual(len(text), 2000)
            self.refuses(BadText(0), read_script, 2, text)

    def test_no_strings(self):
        for r in range(1, 5):
            for thing in [thing for thing in NOTHING if thing != "1"] + [1, -1, (), ("row",), ["1"], ("1",), {"1": 1}]:
                self.refuses(BadText(0), read_script, r, thing)


if __name__ == "__main__":
    unittest.main()
