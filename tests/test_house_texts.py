"""Part 14, [14.5]: texts of houses."""

import unittest
from random import Random

from stilewalks.errors import BadText, NothingToRedo, NothingToUndo
from stilewalks.houses import House, read_house
from tests.helping import FULL_HOUSE, NOTHING, Case
from tests.test_houses import done, does_hold, is_promise
from tests.test_led import LOOP, alike_row
from tests.test_rows import some_row

TEXT = "\n".join(["hall 2", "row a 1 2 -1 -2", "row b 2", "row c", "row dd 2 1 2 -1 -2 -2", "promise home a", "promise led a dd", "promise order a c", "promise home dd"])


def first_bad(text):
    """The number of the first line that cannot stand behind those ahead of it; None if all can."""
    lines = text.split("\n")
    if lines[0] not in ("hall 1", "hall 2", "hall 3", "hall 4"):
        return 1
    r = int(lines[0][5])
    steps = {str(step): step for step in range(-r, r + 1) if step}
    rows, promises = {}, []
    for k, line in enumerate(lines[1:], 2):
        words = line.split(" ")
        if words[0] == "row" and len(words) > 1:
            name = words[1]
            if promises or not 1 <= len(name) <= 8 or not all("a" <= letter <= "z" for letter in name) or rows and name <= max(rows):
                return k
            if not all(word in steps for word in words[2:]):
                return k
            rows[name] = tuple(steps[word] for word in words[2:])
        elif words[0] == "promise":
            promise = tuple(words[1:])
            if not is_promise(rows, promise) or promise in promises or not does_hold(r, rows, promise):
                return k
            promises.append(promise)
        else:
            return k
    return None


def some_house(chance, r):
    house = House(r)
    names = sorted({"".join(chance.choice("abz") for _ in range(chance.randint(1, 8))) for _ in range(chance.randint(0, 8))})
    chance.shuffle(names)
    for name in names:
        row = some_row(chance, r, chance.choice((0, 4, 12)))
        if house.names() and chance.random() < 0.5:
            row = alike_row(chance, r, chance.choice(house.names())[1])[:40]
        if chance.random() < 0.4:
            row += tuple(-step for step in row)
        house.put(name, row[:40])
    rows = dict(house.names())
    names = sorted(rows)
    promises = [(kind, one, other) for one in names for other in names if one < other for kind in ("alike", "order", "led")] + [("home", name) for name in names]
    promises = [promise for promise in promises if does_hold(r, rows, promise)]
    for promise in chance.sample(promises, min(len(promises), chance.randint(0, 8))):
        house.make(promise)
    return house


class HouseTexts(Case):

    def refused(self, line, text):
        self.assertEqual(first_bad(text) if type(text) is str else 0, line, text)
        self.refuses(BadText(line), read_house, text)

    def read(self, text):
        """Reads a text in all ways to call it."""
        house = read_house(text)
        self.assertIs(type(house), House)
        self.same(house.text(), text)
        self.same(read_house(text=text).text(), text)
        for word, error in (("undo", NothingToUndo()), ("redo", NothingToRedo())):
            self.refuses(error, getattr(house, word))
        return house

    def test_text(self):
        house = done(House(2), ("put", "dd", (2, *LOOP, -2)), ("put", "b", (2,)), ("put", "c", ()), ("put", "a", LOOP), ("make", ("home", "a")), ("make", ("led", "a", "dd")),
                     ("make", ("order", "a", "c")), ("make", ("home", "dd")))
        self.tells(TEXT, house.text)
        house.undo()
        self.tells(TEXT[:TEXT.rindex("\n")], house.text)
        self.tells("hall 3\nrow a -3 3", done(House(3), ("put", "a", (-3, 3))).text)
        self.tells("hall 1\nrow a", done(House(1), ("put", "a", ())).text)

    def test_read(self):
        house = self.read(TEXT)
        self.same(house.r, 2)
        self.same(house.names(), (("a", LOOP), ("b", (2,)), ("c", ()), ("dd", (2, *LOOP, -2))))
        self.same(house.promises(), (("home", "a"), ("led", "a", "dd"), ("order", "a", "c"), ("home", "dd")))
        # What is read can be gone on with.
        house.leave("a")
        self.same(house.promises(), (("home", "dd"),))
        house.undo()
        self.same(house.text(), TEXT)
        for r in (1, 2, 3):
            self.same(self.read(f"hall {r}").r, r)
        self.same(self.read("hall 3\nrow abcdefgh\nrow z 1 -3").names(), (("abcdefgh", ()), ("z", (1, -3))))
        self.read("hall 1\nrow home\nrow led 1 -1\npromise home home\npromise led home led\npromise alike home led\npromise home led")

    def test_written_and_read(self):
        chance = Random(251)
        for r in (1, 2, 3):
            for _ in range(60):
                house = some_house(chance, r)
                other = self.read(house.text())
                self.assertIs(other.is_same(house), True)
                self.same(other.names(), house.names())
                self.same(other.promises(), house.promises())

    def test_heads(self):
        for text in ("", "\n", " ", "hall", "hall ", "hall 0", "hall 5", "hall -1", "hall 10", "hall +2", "hall 02", "hall 2 ", " hall 2", "hall  2", "Hall 2", "hall two", "hall 2 2",
                     "row a", "promise home a", "\nhall 2", "hall\n2", "hall 2.0", "hall 2\t", "hall2", "hall 1,2", "hall 3333333333333333333333333333333333333333", "hall -2"):
            self.refused(1, text)
            self.refused(1, text + "\nrow a 1")
        for text in ("hall 2\n", "hall 2\n\n", "hall 2\nhall 2", "hall 2\n ", "hall 2\nrow b 3", "hall 2\nRow b 2", "hall 2\nrow", "hall 2\nrow ", "hall 2\nrow  a", "hall 2\nrows a"):
            self.refused(2, text)

    def test_rows(self):
        for line in ("row a ", "row a  1", "row a 1 ", " row a 1", "row a 0", "row a 3", "row a -3", "row a +1", "row a 01", "row a 1,2", "row a (1)", "row a one", "row a 1.0", "row a --1",
                     "row a - 1", "row A 1", "row abcdefghi 1", "row a1", "row 1", "row 1 a", "row a b", "row a-b", "row a\t1", "row a 10", "row  ", "row a 11111111111111111111111111111111111"):
            self.refused(2, "hall 2\n" + line)
            self.refused(2, "hall 2\n" + line + "\nrow b 3")
            self.refused(3, "hall 2\nrow a\n" + line)
        for lines in (("row a", "row a"), ("row b", "row a"), ("row a", "row c", "row b"), ("row ab", "row aa"), ("row b 1", "row ab"), ("row a", "row a 1")):
            self.refused(1 + len(lines), "\n".join(("hall 2",) + lines))
        self.read("hall 2\nrow a\nrow aa\nrow ab\nrow b")
        # Rows stand ahead of all promises.
        self.refused(4, "hall 2\nrow a\npromise home a\nrow b")

    def test_promise_lines(self):
        head = "hall 2\nrow a 1 2 -1 -2\nrow b 1\nrow c 1 2 -2\n"
        for line in ("promise", "promise ", "promise home", "promise home ", "promise home b", "promise home d", "promise home a ", "promise home  a", "promise Home a", "promise home a b",
                     "promise alike a", "promise alike a b", "promise alike c b", "promise alike b b", "promise alike b c ", "promise alike b d", "promise order a b", "promise order c b",
                     "promise led a b", "promise led c b", "promise led b", "promise none a b", "promises home a", " promise home a", "promise a home", "Promise home a", "promise home a\t",
                     "promise order  b c", "promise led b c b", "make home a", "home a", ""):
            self.refused(5, head + line)
            self.refused(5, head + line + "\npromise home a")
            self.refused(6, head + "promise alike b c\n" + line)
            self.refused(6, head + "promise home a\n" + line)
        for line in ("promise home a", "promise alike b c", "promise order b c", "promise led b c"):
            self.read(head + line)
            self.refused(6, head + line + "\n" + line)
            self.refused(6, head + line + "\n")
        self.read(head + "promise led b c\npromise home a\npromise alike b c\npromise order b c")

    def test_one_thing_otherwise(self):
        """Texts with one line, word, blank or sign otherwise."""
        chance = Random(252)
        seen = {}
        texts = [TEXT, FULL_HOUSE.text(), "hall 1\nrow a 1\nrow b 1 1 -1\nrow c\npromise alike a b\npromise home c\npromise order a c"]
        texts += [some_house(chance, r).text() for r in (1, 2, 3) for _ in range(12)]
        for text in texts:
            lines = text.split("\n")
            others = [text[:k] + text[k + 1:] for k in range(len(text))]
            others += [text[:k] + chance.choice(" -\n1a20") + text[k:] for k in range(len(text) + 1)]
            others += [text[:k] + chance.choice(" -\n123abz0A") + text[k + 1:] for k in range(len(text))]
            for k, line in enumerate(lines):
                others += ["\n".join(lines[:k] + lines[k + 1:]), "\n".join(lines[:k] + [line] + lines[k:]), "\n".join(lines[:k] + lines[k + 1:] + [line])]
                if k + 1 < len(lines):
                    others.append("\n".join(lines[:k] + [lines[k + 1], line] + lines[k + 2:]))
                words = line.split(" ")
                for j in range(len(words)):
                    for parts in (words[:j] + words[j + 1:], words[:j] + [words[j]] + words[j:], words[:j] + [chance.choice(("a", "b", "home", "led", "row", "-1", "2"))] + words[j + 1:],
                                  words[:j] + ["-" + words[j]] + words[j + 1:], words[:j][::-1] + words[j:]):
                        others.append("\n".join(lines[:k] + [" ".join(parts)] + lines[k + 1:]))
            for other in others:
                wanted = first_bad(other)
                try:
                    house = read_house(other)
                except BadText as error:
                    self.assertEqual(error.line, wanted, other)
                    self.assertIs(type(error.line), int)
                else:
                    self.assertIsNone(wanted, other)
                    self.assertEqual(house.text(), other)
                seen[wanted] = seen.get(wanted, 0) + 1
        self.assertGreater(min(seen[k] for k in (None, 1, 2, 3, 4, 5, 6)), 50)

    def test_no_strings(self):
        for thing in NOTHING + (("hall 2",), ["hall 2"], 2, FULL_HOUSE, {"hall": 2}):
            if type(thing) is not str:
                self.refuses(BadText(0), read_house, thing)
            else:
                self.refused(1, thing)
        self.refused(1, "x" * 2000)
        self.refused(2, "hall 2\n" + "x" * 1993)
        self.refused(2, "hall 2\n" + "\n" * 1993)
        self.refused(2, "hall 2\nrow a " + "1" * 1980)

    def test_long_texts(self):
        """Eight rows of 40 steps and eight promises of the slowest kinds."""
        row = (1, 2, 1, -2) * 10
        names = "abcdefgh"
        house = House(2)
        for k, name in enumerate(names):
            house.put(name, row[k:] + row[:k])
        for k in range(7):
            promise = ("led", names[k], names[k + 1])
            if does_hold(2, dict(house.names()), promise):
                house.make(promise)
        house.make(("order", "a", "e"))
        self.assertGreater(len(house.promises()), 3)
        self.read(house.text())


if __name__ == "__main__":
    unittest.main()
