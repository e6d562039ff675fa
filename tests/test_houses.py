"""Part 14, [14.1] to [14.4]: houses, their promises and deeds."""

import unittest
from random import Random

from stilewalks import errors
from stilewalks.errors import BadBook, BadName, BadPromise, BadRow, Broken, Here, NoName, NothingToRedo, NothingToUndo
from stilewalks.houses import House, read_house
from stilewalks.led import leading_rooms
from stilewalks.scripts import row_end, undone_row
from stilewalks.shows import rows_alike
from tests import test_led, test_orders
from tests.helping import ANY, FULL_HOUSE, HOUSE, NEW_HOUSE, NOTHING, Case, listed, near_misses
from tests.test_books import no_books, put_by_hand, some_book, steps_of
from tests.test_led import LOOP, alike_row
from tests.test_rows import some_row
from tests.test_shows import crossed

NO_NAMES = NOTHING + ("", "A", "aB", "a1", "a b", "abcdefghi", "a\n", "-", "(", "{", "`", ("a",), ["a"], None, 1, "a" * 9)
NOT_SEEN = LOOP + (-1, 2, 1, -2) + (2, 1, -2, -1) + (2, -1, -2, 1)


def certificates_right(r, rows, promise, thing):
    """Whether a value is a certificate [14.3] against a promise about some rows."""
    one, other = rows[promise[1]], rows[promise[-1]]
    if type(thing) is not tuple or not thing:
        return False
    ends = row_end(r, one), row_end(r, other)
    if promise[0] == "home":
        return repr(thing) == repr(("end", ends[0])) and any(ends[0])
    if promise[0] == "alike":
        if thing[0] == "ends":
            return repr(thing) == repr(("ends", *ends)) and ends[0] != ends[1]
        numbers = [{(room, i): number for room, i, number in crossed(r, row)} for row in (one, other)]
        unlike = [(*passage, *[table.get(passage, 0) for table in numbers]) for passage in sorted(set(numbers[0]) | set(numbers[1]))
                  if numbers[0].get(passage, 0) != numbers[1].get(passage, 0)]
        return thing[0] == "stile" and repr(thing[1:]) in [repr(told) for told in unlike]
    if promise[0] == "order":
        return thing[0] == "passage" and test_orders.is_right(r, one, other, thing)
    return thing[0] in ("ends", "stiles") and test_led.is_right(r, one, other, thing)


def does_hold(r, rows, promise):
    one, other = rows[promise[1]], rows[promise[-1]]
    if promise[0] == "home":
        return not any(row_end(r, one))
    if promise[0] == "alike":
        return rows_alike(r, one, other)
    if promise[0] == "order":
        return rows_alike(r, one + other, other + one)
    return leading_rooms(r, one, other) != ()


def is_promise(rows, thing):
    if type(thing) is not tuple or len(thing) not in (2, 3) or not all(type(name) is str and name in rows for name in thing[1:]):
        return False
    if len(thing) == 2:
        return thing[0] == "home"
    return thing[0] in ("alike", "order", "led") and thing[1] < thing[2]


class Model:
    """A house, told in another way: a list of all states, and the place in it."""

    def __init__(self, r):
        self.r = r
        self.states = [({}, ())]
        self.at = 0

    def now(self):
        return self.states[self.at]

    def turn(self, rows, promises):
        self.states = self.states[:self.at + 1] + [(dict(rows), promises)]
        self.at += 1

    def after(self, word, given):
        """The rows and promises behind a deed; raises the error that it has to raise."""
        rows, promises = self.now()
        rows = dict(rows)
        if word == "put":
            name, row = given
            if type(name) is not str or not 1 <= len(name) <= 8 or not all("a" <= letter <= "z" for letter in name):
                raise BadName(name)
            if name in rows:
                raise Here(name)
            if type(row) is not tuple or not all(type(step) is int and 1 <= abs(step) <= self.r for step in row):
                raise BadRow(row)
            rows[name] = row
            return rows, promises
        if word in ("behind", "around", "back", "leave"):
            for name in given:
                if type(name) is not str or name not in rows:
                    raise NoName(name)
        if word == "leave":
            del rows[given[0]]
            return rows, tuple(promise for promise in promises if given[0] not in promise[1:])
        if word == "make":
            if not is_promise(rows, given[0]) or given[0] in promises:
                raise BadPromise(given[0])
            if not does_hold(self.r, rows, given[0]):
                raise Broken(given[0], None)
            return rows, promises + given
        if word == "drop":
            if not is_promise(rows, given[0]) or given[0] not in promises:
                raise BadPromise(given[0])
            return rows, tuple(promise for promise in promises if promise != given[0])
        if word == "by_book":
            if type(given[0]) is not tuple or len(given[0]) != self.r or not all(type(row) is tuple and all(type(step) is int and 1 <= abs(step) <= self.r for step in row) for row in given[0]):
                raise BadBook(given[0])
            rows = {name: put_by_hand(given[0], row) for name, row in rows.items()}
        if word == "behind":
            rows[given[0]] = rows[given[1]] + rows[given[2]]
        if word == "around":
            rows[given[0]] = rows[given[1]] + rows[given[2]] + undone_row(self.r, rows[given[1]])
        if word == "back":
            rows[given[0]] = undone_row(self.r, rows[given[0]])
        for promise in promises:
            if not does_hold(self.r, rows, promise):
                self.wanted = rows
                raise Broken(promise, None)
        return rows, promises

    def do(self, word, given):
        self.wanted = self.now()[0]
        if word == "undo":
            if self.at == 0:
                raise NothingToUndo()
            self.at -= 1
        elif word == "redo":
            if self.at + 1 == len(self.states):
                raise NothingToRedo()
            self.at += 1
        else:
            self.turn(*self.after(word, given))

    def text(self):
        rows, promises = self.now()
        lines = ["hall " + str(self.r)] + [" ".join(["row", name, *map(str, rows[name])]) for name in sorted(rows)]
        return "\n".join(lines + [" ".join(["promise", *promise]) for promise in promises])


def done(house, *deeds):
    """A house behind some deeds, told as tuples."""
    for word, *given in deeds:
        if getattr(house, word)(*given) is not None:
            raise AssertionError(word)
    return house


class HouseCase(Case):

    def is_told(self, house, rows, promises):
        self.same(house.names(), tuple(sorted(rows.items())))
        self.same(house.promises(), promises)
        for name, row in rows.items():
            self.same(house.row_of(name), row)

    def as_it_was(self, house):
        """All that a house tells, and what it can undo and redo, told by copies."""
        told = [(house.r, house.names(), house.promises(), house.text())]
        for word in ("undo", "redo"):
            other = house.copied()
            while True:
                try:
                    getattr(other, word)()
                except (NothingToUndo, NothingToRedo):
                    break
                told.append((other.names(), other.promises()))
            told.append(word)
        return told

    def keeps(self, expected, house, word, *given):
        """A deed raises an error, in all ways to call it, and changes nothing."""
        before = self.as_it_was(house)
        self.refuses(expected, getattr(house, word), *given)
        self.same(self.as_it_was(house), before)

    def breaks(self, promise, house, rows, word, *given):
        """A deed raises Broken with a promise and a right certificate against it with the new rows."""
        before = self.as_it_was(house)
        for placed, named in self.ways(getattr(house, word), given):
            with self.assertRaises(Broken) as caught:
                getattr(house, word)(*placed, **named)
            self.same(caught.exception.promise, promise)
            self.assertTrue(certificates_right(house.r, rows, promise, caught.exception.certificate), (rows, promise, caught.exception.certificate))
        self.same(self.as_it_was(house), before)


class Houses(HouseCase):

    def test_new(self):
        for r in (1, 2, 3):
            house = House(r)
            self.same(House(r=r).r, r)
            self.same(house.r, r)
            self.tells((), house.names)
            self.tells((), house.promises)
            self.tells(f"hall {r}", house.text)
            self.keeps(NothingToUndo(), house, "undo")
            self.keeps(NothingToRedo(), house, "redo")
            self.assertIs(house.is_same(House(r)), True)
            self.assertIs(house.is_same(House(r % 3 + 1)), False)

    def test_put(self):
        house = House(2)
        for name, row in (("b", (1, 2)), ("a", ()), ("abcdefgh", (1, -1)), ("zzzzzzzz", (2,) * 40), ("row", ()), ("home", (1,)), ("promise", (2,)), ("hall", ())):
            self.assertIsNone(house.put(name, row))
            self.tells(row, house.row_of, name)
        self.same([name for name, _ in house.names()], sorted(["b", "a", "abcdefgh", "zzzzzzzz", "row", "home", "promise", "hall"]))
        self.same(house.names()[0], ("a", ()))
        other = House(2)
        self.assertIsNone(other.put(row=(1,), name="x"))
        self.tells((("x", (1,)),), other.names)

    def test_bad_names(self):
        house = done(House(2), ("put", "a", (1,)))
        for thing in NO_NAMES:
            if type(thing) is str and 1 <= len(thing) <= 8 and all("a" <= letter <= "z" for letter in thing):
                continue
            for row in ((1,), None, (3,)):
                self.keeps(BadName(thing), house, "put", thing, row)
        for row in ((1,), None, (3,)):
            self.keeps(Here("a"), house, "put", "a", row)
        for thing in NOTHING + ((3,), (0,), (-3,), (True,), [1], 1):
            self.keeps(BadRow(thing), house, "put", "b", thing)
        for thing in ANY + ("b", "A", ("a",), ["a"], "aa", ""):
            self.keeps(NoName(thing), house, "row_of", thing)
            self.keeps(NoName(thing), house, "back", thing)
            self.keeps(NoName(thing), house, "leave", thing)
            for word in ("behind", "around"):
                self.keeps(NoName(thing), house, word, thing, "a", "a")
                self.keeps(NoName(thing), house, word, "a", thing, "a")
                self.keeps(NoName(thing), house, word, "a", "a", thing)
                self.keeps(NoName(thing), house, word, thing, "c", None)
                self.keeps(NoName(thing), house, word, "a", thing, "c")

    def test_deeds(self):
        house = done(House(2), ("put", "a", (1, 2)), ("put", "b", (2,)), ("put", "c", ()))
        self.assertIsNone(house.behind("c", "a", "b"))
        self.is_told(house, {"a": (1, 2), "b": (2,), "c": (1, 2, 2)}, ())
        self.assertIsNone(house.behind("a", "a", "a"))
        self.is_told(house, {"a": (1, 2, 1, 2), "b": (2,), "c": (1, 2, 2)}, ())
        self.assertIsNone(house.around("b", "b", "a"))
        self.is_told(house, {"a": (1, 2, 1, 2), "b": (2, 1, 2, 1, 2, -2), "c": (1, 2, 2)}, ())
        self.assertIsNone(house.around(other="c", one="a", name="a"))
        self.is_told(house, {"a": (1, 2, 1, 2, 1, 2, 2, -2, -1, -2, -1), "b": (2, 1, 2, 1, 2, -2), "c": (1, 2, 2)}, ())
        self.assertIsNone(house.back("c"))
        self.is_told(house, {"a": (1, 2, 1, 2, 1, 2, 2, -2, -1, -2, -1), "b": (2, 1, 2, 1, 2, -2), "c": (-2, -2, -1)}, ())
        self.assertIsNone(house.leave("a"))
        self.assertIsNone(house.by_book(((2, 1), (2,))))
        self.is_told(house, {"b": (2, 2, 1, 2, 2, 1, 2, -2), "c": (-2, -2, -1, -2)}, ())
        self.assertIsNone(house.around("c", "c", "c"))
        self.is_told(house, {"b": (2, 2, 1, 2, 2, 1, 2, -2), "c": (-2, -2, -1, -2) * 2 + (2, 1, 2, 2)}, ())

    def test_bad_books(self):
        for r in (1, 2, 3):
            house = done(House(r), ("put", "a", (1, -1)), ("make", ("home", "a")))
            for thing in no_books(r):
                self.keeps(BadBook(thing), house, "by_book", thing)

    def test_promises(self):
        house = done(House(2), ("put", "a", LOOP), ("put", "b", (2,) + LOOP + (-2,)), ("put", "c", (1,)), ("put", "d", (2, 1, -2)), ("put", "e", (1, 2, -2)))
        for promise in (("home", "a"), ("alike", "c", "e"), ("order", "a", "b"), ("led", "c", "d"), ("led", "a", "b"), ("order", "c", "e"), ("home", "b")):
            self.assertIsNone(house.make(promise))
            self.same(house.promises()[-1], promise)
            self.keeps(BadPromise(promise), house, "make", promise)
        self.assertEqual(len(house.promises()), 7)
        rows = dict(house.names())
        for promise in (("home", "c"), ("alike", "a", "b"), ("alike", "c", "d"), ("order", "c", "d"), ("order", "a", "c"), ("led", "a", "c")):
            self.breaks(promise, house, rows, "make", promise)
        for thing in (("alike", "e", "c"), ("order", "b", "a"), ("led", "d", "c"), ("alike", "c", "c"), ("order", "a", "a"), ("led", "a", "a"), ("home", "f"), ("alike", "a", "f"),
                      ("home", "a", "b"), ("home",), ("alike", "a"), ("order", "a", "b", "c"), ["home", "a"], ("Home", "a"), ("home", ("a",)), ("home", None), "home", ("a", "home"),
                      ("promise", "a", "b"), ("alike", None, None), ((), "a"), ("home", ""), (["home"], "a"), ({}, "a", "b"), (NEW_HOUSE, "a"), ("led", "a", NEW_HOUSE)) + ANY:
            self.keeps(BadPromise(thing), house, "make", thing)
            self.keeps(BadPromise(thing), house, "drop", thing)
        self.keeps(BadPromise(("home", "c")), house, "drop", ("home", "c"))
        self.keeps(BadPromise(("led", "d", "c")), house, "drop", ("led", "d", "c"))
        chance = Random(241)
        for promise in house.promises():
            for thing in near_misses(chance, promise, 60):
                if not is_promise(rows, thing):
                    self.keeps(BadPromise(thing), house, "make", thing)
                if thing not in house.promises():
                    self.keeps(BadPromise(thing), house, "drop", thing)
        self.assertIsNone(house.drop(("order", "a", "b")))
        self.assertIsNone(house.drop(thing=("home", "b")))
        self.tells((("home", "a"), ("alike", "c", "e"), ("led", "c", "d"), ("led", "a", "b"), ("order", "c", "e")), house.promises)
        self.assertIsNone(house.make(("order", "a", "b")))
        self.same(house.promises()[-1], ("order", "a", "b"))

    def test_names_like_words(self):
        """Names may be the words of promises: only the names are names."""
        house = done(House(1), ("put", "home", ()), ("put", "led", (1, -1)), ("put", "alike", (1,)), ("make", ("home", "home")), ("make", ("home", "led")),
                     ("make", ("alike", "home", "led")), ("make", ("led", "home", "led")), ("make", ("order", "alike", "home")))
        other = house.copied()
        self.assertIsNone(other.leave("alike"))
        self.same(other.promises(), (("home", "home"), ("home", "led"), ("alike", "home", "led"), ("led", "home", "led")))
        other = house.copied()
        other.leave("led")
        self.same(other.promises(), (("home", "home"), ("order", "alike", "home")))
        other.leave("home")
        self.same(other.promises(), ())
        self.same(read_house(house.text()).promises(), house.promises())

    def test_first_broken(self):
        """Two or three promises would not hold any more: the first one in the order in which they were made is told."""
        start = [("put", "a", LOOP), ("put", "b", LOOP + (1, -1)), ("put", "c", (1,)), ("put", "d", (-1, 1, 1))]
        promises = [("alike", "a", "b"), ("home", "a"), ("order", "a", "b"), ("led", "a", "b")]
        chance = Random(242)
        for _ in range(12):
            chance.shuffle(promises)
            house = done(House(2), *start, *[("make", promise) for promise in promises])
            # Not closed any more: all of the promises break.
            rows = {**dict(house.names()), "a": LOOP + (1,)}
            self.breaks(promises[0], house, rows, "behind", "a", "a", "c")
            # Closed, and in either order, but neither alike nor led.
            rows = {**dict(house.names()), "a": LOOP + LOOP}
            first = [promise for promise in promises if promise[0] in ("alike", "led")][0]
            self.breaks(first, house, rows, "behind", "a", "a", "b")
            # Led still, and only not alike.
            rows = {**dict(house.names()), "b": (1,) + LOOP + (1, -1) + (-1,)}
            self.breaks(("alike", "a", "b"), house, rows, "around", "b", "c", "b")
            # Undone, both rows would be alike again, but each for itself is not.
            rows = {**dict(house.names()), "b": undone_row(2, LOOP + (1, -1))}
            self.breaks(first, house, rows, "back", "b")
            self.assertIsNone(house.by_book(((2,), (1,))))
            self.is_told(house, {"a": (2, 1, -2, -1), "b": (2, 1, -2, -1, 2, -2), "c": (2,), "d": (-2, 2, 2)}, tuple(promises))

    def test_books_and_promises(self):
        """What a book puts for rows that are alike, closed, in either order or led is so again: it breaks no promise."""
        chance = Random(243)
        for r in (1, 2, 3):
            for _ in range(40):
                one, other, book = some_row(chance, r, 8), some_row(chance, r, 8), some_book(chance, r, 3)
                house = done(House(r), ("put", "a", one), ("put", "b", alike_row(chance, r, one)), ("put", "c", other), ("put", "d", one + other + undone_row(r, one)),
                             ("put", "e", one + one), ("make", ("alike", "a", "b")), ("make", ("led", "c", "d")), ("make", ("order", "a", "e")))
                if not any(row_end(r, one)):
                    house.make(("home", "a"))
                rows = {name: put_by_hand(book, row) for name, row in house.names()}
                promises = house.promises()
                self.assertIsNone(house.by_book(book))
                self.is_told(house, rows, promises)

    def test_leave(self):
        house = done(House(2), ("put", "a", LOOP), ("put", "b", LOOP), ("put", "c", ()), ("make", ("home", "a")), ("make", ("alike", "a", "b")), ("make", ("home", "c")),
                     ("make", ("order", "b", "c")), ("make", ("led", "a", "b")))
        other = house.copied()
        self.assertIsNone(other.leave("b"))
        self.is_told(other, {"a": LOOP, "c": ()}, (("home", "a"), ("home", "c")))
        other.undo()
        self.is_told(other, dict(house.names()), house.promises())
        other.leave("c")
        self.is_told(other, {"a": LOOP, "b": LOOP}, (("home", "a"), ("alike", "a", "b"), ("led", "a", "b")))
        self.keeps(NoName("c"), other, "leave", "c")
        self.assertIsNone(other.put("c", (1,)))

    def test_undo(self):
        house = done(House(2), ("put", "a", LOOP), ("make", ("home", "a")), ("put", "b", (1,)), ("around", "a", "b", "a"), ("leave", "a"))
        states = [house.text()]
        while True:
            try:
                self.assertIsNone(house.undo())
            except NothingToUndo:
                break
            states.append(house.text())
        self.assertEqual(len(states), 6)
        self.same(states[-1], "hall 2")
        self.same(states[3], "hall 2\nrow a 1 2 -1 -2\npromise home a")
        self.keeps(NothingToUndo(), house, "undo")
        for text in states[-2::-1]:
            self.assertIsNone(house.redo())
            self.same(house.text(), text)
        self.keeps(NothingToRedo(), house, "redo")
        # What raises an error is no deed: it leaves what was taken back.
        house.undo()
        house.undo()
        self.keeps(NoName("c"), house, "back", "c")
        self.keeps(Here("a"), house, "put", "a", ())
        self.breaks(("home", "a"), house, {"a": LOOP + (1,), "b": (1,)}, "behind", "a", "a", "b")
        house.redo()
        self.same(house.text(), states[1])
        house.undo()
        # A deed makes all that was taken back impossible to redo.
        house.drop(("home", "a"))
        self.keeps(NothingToRedo(), house, "redo")
        house.undo()
        self.same(house.text(), states[2])

    def test_deeds_that_change_nothing(self):
        house = done(House(2), ("put", "a", ()), ("put", "b", LOOP))
        texts = house.text()
        deeds = [("back", "a"), ("behind", "a", "a", "a"), ("around", "b", "a", "b"), ("by_book", ((1,), (2,)))]
        for deed in deeds:
            done(house, deed)
            self.same(house.text(), texts)
        for _ in deeds:
            self.assertIsNone(house.undo())
            self.same(house.text(), texts)
        self.assertIsNone(house.undo())
        self.same(house.text(), "hall 2\nrow a")
        self.assertIsNone(house.redo())
        self.same(house.text(), texts)
        # They, too, make what was taken back impossible to redo.
        done(house, ("by_book", ((1,), (2,))))
        self.keeps(NothingToRedo(), house, "redo")
        empty = House(3)
        self.assertIsNone(empty.by_book(((1, 1), (), (2,))))
        self.assertIsNone(empty.undo())
        self.keeps(NothingToUndo(), empty, "undo")
        self.assertIsNone(empty.redo())

    def test_copies(self):
        house = done(House(2), ("put", "a", LOOP), ("put", "b", (1,)), ("make", ("home", "a")), ("around", "a", "b", "a"))
        house.undo()
        house.undo()
        other = house.copied()
        self.assertIsNot(other, house)
        self.assertIs(house.is_same(other), True)
        self.assertIs(other.is_same(house), True)
        self.same(self.as_it_was(other), self.as_it_was(house))
        before = self.as_it_was(house)
        # Undo and redo of the copy leave those of the house.
        other.redo()
        other.redo()
        self.same(other.row_of("a"), (1, *LOOP, -1))
        for _ in range(4):
            other.undo()
        self.same(other.text(), "hall 2")
        self.same(self.as_it_was(house), before)
        other.put("c", (2,))
        self.keeps(NothingToRedo(), other, "redo")
        self.same(self.as_it_was(house), before)
        third = house.copied()
        house.leave("b")
        self.keeps(NothingToRedo(), house, "redo")
        self.same(self.as_it_was(third), before)
        third.redo()
        self.same(third.promises(), (("home", "a"),))
        self.same(house.promises(), ())

    def test_is_same(self):
        house = done(House(2), ("put", "a", LOOP), ("put", "b", (1,)), ("make", ("home", "a")), ("back", "b"), ("back", "b"))
        same = done(House(2), ("put", "b", (1,)), ("put", "a", LOOP), ("make", ("home", "a")))
        self.tells(True, house.is_same, same)
        self.tells(True, house.is_same, house)
        self.tells(True, house.is_same, read_house(house.text()))
        self.tells(False, house.is_same, done(same.copied(), ("back", "b")))
        self.tells(False, house.is_same, done(same.copied(), ("drop", ("home", "a"))))
        self.tells(False, house.is_same, done(House(3), ("put", "b", (1,)), ("put", "a", LOOP), ("make", ("home", "a"))))
        # The order of the promises is told, that of the names is not.
        one, other = (done(House(1), ("put", "a", ()), ("put", "b", ()), ("make", (first, *names)), ("make", (second, *more)))
                      for first, names, second, more in (("home", ("a",), "alike", ("a", "b")), ("alike", ("a", "b"), "home", ("a",))))
        self.tells(False, one.is_same, other)
        for thing in ANY + (house.text(), house.names(), None, House, [house], (house,)):
            if thing is not FULL_HOUSE:
                self.tells(False, house.is_same, thing)

    def test_equality(self):
        """== and != of houses and any values never raise an error."""
        house = done(House(2), ("put", "a", LOOP))
        for thing in ANY + (errors.BadRow(house), errors.Broken((), house)):
            for one, other in ((house, thing), (thing, house), ((house,), (thing,)), ([thing], [house])):
                self.assertIs(type(one == other), bool)
                self.assertIs(type(one != other), bool)
                self.assertIs(one == other, not one != other)
        self.assertIs(house == house, True)
        self.assertIs((house, 1) == (house, 1), True)
        # The same call returns an equal result.
        self.assertIs(house.copied() == house.copied(), True)
        self.assertIs(read_house("hall 2\nrow a 1") == read_house("hall 2\nrow a 1"), True)
        for text in ("hall 1\nrow a 1", "hall 2\nrow a 2", "hall 2\nrow b 1", "hall 2\nrow a 1\nrow b", "hall 2"):
            self.assertIs(read_house("hall 2\nrow a 1") == read_house(text), False)
        self.assertIs(read_house("hall 2\nrow a\npromise home a") == read_house("hall 2\nrow a"), False)


class Broke(HouseCase):
    """Promises that hold and that do not, for drawn rows."""

    def test_make(self):
        chance = Random(244)
        found = {}
        for r in (1, 2, 3):
            for _ in range(60):
                one, other = some_row(chance, r, chance.choice((4, 12, 40))), some_row(chance, r, chance.choice((4, 12, 40)))
                way = chance.randrange(5)
                if way == 1:
                    other = alike_row(chance, r, one)[:40]
                elif way == 2:
                    ahead = some_row(chance, r, 5)
                    one = one[:25]
                    other = ahead + one + undone_row(r, ahead)
                elif way == 3:
                    one, other = one[:10] * 2, one[:10] * 3
                elif way == 4:
                    one = one[:20] + undone_row(r, one[:20][::-1])[::-1] if chance.random() < 0.5 else one[:20] + tuple(-step for step in sorted(one[:20]))
                house = done(House(r), ("put", "a", one), ("put", "b", other))
                rows = dict(house.names())
                for promise in (("alike", "a", "b"), ("home", "a"), ("home", "b"), ("order", "a", "b"), ("led", "a", "b")):
                    holds = does_hold(r, rows, promise)
                    found[promise[0], holds] = found.get((promise[0], holds), 0) + 1
                    if holds:
                        self.assertIsNone(house.make(promise))
                        self.same(house.promises()[-1], promise)
                        self.keeps(BadPromise(promise), house, "make", promise)
                    else:
                        self.breaks(promise, house, rows, "make", promise)
        self.assertEqual(len(found), 8)
        self.assertGreater(min(found.values()), 20)

    def test_drawn_deeds(self):
        """Drawn deeds with right and wrong arguments, against a house that is told in another way."""
        chance = Random(245)
        seen = {}
        for _ in range(350):
            r = chance.choice((1, 2, 2, 3))
            house, model = House(r), Model(r)
            for _ in range(45):
                word, given = self.drawn(chance, model)
                before = model.text()
                try:
                    model.do(word, given)
                    expected = None
                except errors.StileError as error:
                    expected = error
                try:
                    told = getattr(house, word)(*given)
                    raised = None
                except errors.StileError as error:
                    raised = error
                self.assertIs(type(raised), type(expected), (word, given))
                kind = type(expected).__name__
                seen[word, kind] = seen.get((word, kind), 0) + 1
                if expected is None:
                    self.assertIsNone(told)
                elif isinstance(expected, Broken):
                    self.same(raised.promise, expected.promise)
                    self.assertTrue(certificates_right(r, model.wanted, raised.promise, raised.certificate))
                    self.assertEqual(house.text(), before)
                else:
                    self.same(vars(raised), vars(expected))
                self.same(house.text(), model.text())
                self.same(house.names(), tuple(sorted(model.now()[0].items())))
                self.same(house.promises(), model.now()[1])
                self.assertTrue(all(does_hold(r, dict(house.names()), promise) for promise in house.promises()))
                self.assertIs(read_house(house.text()).is_same(house), True)
                if chance.random() < 0.05:
                    house = house.copied()
        for word in HOUSE:
            if word not in ("names", "row_of", "promises", "copied", "text", "is_same"):
                self.assertIn((word, "NoneType"), seen)
        for word in ("behind", "around", "back", "make"):
            self.assertGreater(seen.get((word, "Broken"), 0), 5, word)
        for key in (("put", "Here"), ("put", "BadName"), ("put", "BadRow"), ("by_book", "BadBook"), ("drop", "BadPromise"), ("undo", "NothingToUndo"), ("redo", "NothingToRedo"), ("leave", "NoName")):
            self.assertIn(key, seen)

    def drawn(self, chance, model):
        """A deed and its arguments, mostly right, such that no row becomes longer than 40 steps."""
        rows, promises = model.now()
        names = sorted(rows)
        name = chance.choice(names) if names and chance.random() < 0.93 else chance.choice(("x", "Zz", None, ["a"]))
        word = chance.choice(("put", "put", "put", "behind", "behind", "around", "around", "back", "back", "by_book", "leave", "make", "make", "make", "make", "drop", "undo", "redo", "redo"))
        if word == "put":
            row = some_row(chance, model.r, chance.choice((0, 2, 4, 8)))
            if names and chance.random() < 0.5:
                row = rows[chance.choice(names)]
            if chance.random() < 0.4:
                row += tuple(-step for step in row)
            if len(names) == 8 or len(row) > 40:
                return "back", (name,)
            return word, (chance.choice(("a", "b", "c", "dd", "eee", "a", "b", "c", "A", "")), chance.choice((row,) * 8 + ((model.r + 1,), list(row))))
        if word in ("behind", "around"):
            one, other = (chance.choice(names) if names and chance.random() < 0.95 else "y" for _ in range(2))
            size = (1 + (word == "around")) * len(rows.get(one, ())) + len(rows.get(other, ()))
            return (word, (name, one, other)) if size <= 40 else ("back", (name,))
        if word == "by_book":
            book = chance.choice((some_book(chance, model.r, 2), tuple((-i,) for i in range(1, model.r + 1)), steps_of(model.r)[::-1], None, steps_of(model.r)[1:]))
            if type(book) is tuple and len(book) == model.r and any(len(put_by_hand(book, row)) > 40 for row in rows.values()):
                return "undo", ()
            return word, (book,)
        if word == "make":
            one, other = sorted([name, chance.choice(names)] if names and type(name) is str else ["x", "y"])
            kind = chance.choice(("alike", "home", "order", "led"))
            promise = (kind, one) if kind == "home" else (kind, one, other)
            right = [(kind, a, b) for a in names for b in names if a < b for kind in ("alike", "order", "led")] + [("home", a) for a in names]
            right = [thing for thing in right if thing not in promises and does_hold(model.r, rows, thing)]
            if right and chance.random() < 0.7:
                promise = chance.choice(right)
            if chance.random() < 0.1:
                promise = (kind, other, one)
            return (word, (promise,)) if len(promises) < 8 else ("drop", (promise,))
        if word == "drop":
            return word, (chance.choice(promises) if promises and chance.random() < 0.8 else ("home", name),)
        return word, (name,) if word in ("back", "leave") else ()


class Listed(HouseCase):

    def test_lists(self):
        house = done(House(2), ("put", "a", LOOP))
        for thing in listed(("home", "a")):
            self.keeps(BadPromise(thing), house, "make", thing)
        for thing in listed(((1,), (2,))):
            self.keeps(BadBook(thing), house, "by_book", thing)


if __name__ == "__main__":
    unittest.main()
