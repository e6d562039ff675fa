"""Part 8: books, what they put, and books that take them back."""

import unittest
from random import Random

from stilewalks.books import (back_holds, behind, book_determinant, book_ends, book_table, books_alike, is_book, is_taken_back, judge_back, leader_of,
                              put)
from stilewalks.errors import BadBook, BadRow
from stilewalks.scripts import is_row, reduced_row, row_end, undone_row
from stilewalks.shows import rows_alike, show_of
from tests.helping import NOTHING, Case, listed, near_misses
from tests.test_led import LOOP, alike_row
from tests.test_rows import some_row
from tests.test_termsums import added, determinant_by_hand, multiplied, scaled

NOT_SEEN = LOOP + (-1, 2, 1, -2) + (2, 1, -2, -1) + (2, -1, -2, 1)


def steps_of(r):
    return tuple((i,) for i in range(1, r + 1))


def put_by_hand(book, row):
    out = ()
    for step in row:
        out += book[step - 1] if step > 0 else tuple(-back for back in reversed(book[-step - 1]))
    return out


def table_by_hand(r, book):
    return tuple(tuple(tuple((room, number) for room, i, number in show_of(r, row) if i == j) for j in range(1, r + 1)) for row in book)


def led_by(ends, room):
    return tuple(sum(item * end[k] for item, end in zip(room, ends)) for k in range(len(room)))


def led_table(ends, table):
    return [[added(*[[(led_by(ends, room), number)] for room, number in terms]) for terms in row] for row in table]


def table_times(one, other):
    return tuple(tuple(added(*[multiplied(one[i][k], other[k][j]) for k in range(len(other))]) for j in range(len(other))) for i in range(len(one)))


def fits(book, most=12, together=30):
    return max(len(row) for row in book) <= most and sum(len(row) for row in book) <= together


def exchanged(chance, r, book, reduced=True):
    """A book with one row put before, behind or around another one, undone, or exchanged."""
    rows = list(book)
    i = chance.randrange(r)
    way = chance.randrange(6)
    if way == 0 or r == 1:
        rows[i] = undone_row(r, rows[i])
    else:
        j = chance.choice([k for k in range(r) if k != i])
        other = rows[j] if chance.random() < 0.5 else undone_row(r, rows[j])
        if way == 1:
            rows[i], rows[j] = rows[j], rows[i]
        elif way == 2:
            rows[i] = other + rows[i]
        elif way == 3:
            rows[i] = rows[i] + other
        else:
            rows[i] = other + rows[i] + undone_row(r, other)
    if reduced:
        rows = [reduced_row(r, row) for row in rows]
    return tuple(rows)


def made_book(chance, r, times, reduced=True):
    book = steps_of(r)
    for _ in range(times):
        other = exchanged(chance, r, book, reduced)
        if fits(other):
            book = other
    return book


def some_book(chance, r, most):
    return tuple(some_row(chance, r, most) for _ in range(r))


def no_books(r):
    wrong = list(NOTHING) + [steps_of(r)[1:], steps_of(r) + ((1,),), list(steps_of(r)), ((r + 1,),) * r, ((0,),) * r, ((True,),) * r, (1,) * r, ([1],) * r,
                             (None,) * r, ("1",) * r, ((),) * (r - 1), ((),) * (r + 1), ((1,),) * (r - 1) + ((1, None),), ((1,),) * (r - 1) + (1,)]
    return [thing for thing in wrong if not right_book(r, thing)]


def right_book(r, thing):
    if type(thing) is not tuple or len(thing) != r:
        return False
    return all(type(row) is tuple and all(type(step) is int and 1 <= abs(step) <= r for step in row) for row in thing)


class Books(Case):

    def test_is_book(self):
        chance = Random(161)
        for r in (1, 2, 3):
            for book in (steps_of(r), ((),) * r, made_book(chance, r, 8), some_book(chance, r, 10)):
                self.tells(True, is_book, r, book)
                for thing in near_misses(chance, book, 100):
                    self.assertIs(is_book(r, thing), right_book(r, thing))
            for thing in no_books(r):
                self.tells(False, is_book, r, thing)

    def test_put(self):
        book = ((1, 2), (2,))
        self.tells((1, 2, -2), put, 2, book, (1, -2))
        # Nothing is taken out.
        self.tells((1, 2, -2, -1), put, 2, book, (1, -1))
        self.tells((-2, -1, 1, 2, 2), put, 2, book, (-1, 1, 2))
        self.tells((), put, 2, book, ())
        self.tells((), put, 2, ((), ()), (1, 2, -1, 1))
        self.tells((1, -1, 1, -1), put, 2, ((1, -1), (2,)), (1, 1))
        self.tells((1, -1), put, 2, ((1, -1), (2,)), (-1,))
        chance = Random(162)
        for r in (1, 2, 3):
            for _ in range(20):
                book, row = some_book(chance, r, 10), some_row(chance, r, 40)
                self.tells(put_by_hand(book, row), put, r, book, row)
                self.tells(row, put, r, steps_of(r), row)
                self.assertEqual(row_end(r, put(r, book, row)), led_by(book_ends(r, book), row_end(r, row)))
                # Rows that are alike become alike rows.
                other = alike_row(chance, r, row)
                self.assertTrue(rows_alike(r, put(r, book, row), put(r, book, other)))
                self.same(put(r, book, undone_row(r, row)), undone_row(r, put(r, book, row)))

    def test_behind(self):
        self.tells(((1, 2, -2), (2,)), behind, 2, ((1, 2), (2,)), ((1, -2), (2,)))
        self.tells(((1, 2), (2, -1)), behind, 2, ((1,), (2,)), ((1, 2), (2, -1)))
        chance = Random(163)
        for r in (1, 2, 3):
            for _ in range(15):
                one, other, row = some_book(chance, r, 10), some_book(chance, r, 10), some_row(chance, r, 10)
                both = tuple(put_by_hand(one, line) for line in other)
                self.tells(both, behind, r, one, other)
                self.same(put(r, both, row), put(r, one, put(r, other, row)))
                self.same(book_ends(r, both), tuple(led_by(book_ends(r, one), end) for end in book_ends(r, other)))
                wanted = table_times(led_table(book_ends(r, one), book_table(r, other)), book_table(r, one))
                self.same(book_table(r, both), wanted)

    def test_ends_and_tables(self):
        book = ((1, 2), (2,))
        self.tells(((1, 1), (0, 1)), book_ends, 2, book)
        self.tells((((((0, 0), 1),), (((1, 0), 1),)), ((), (((0, 0), 1),))), book_table, 2, book)
        self.tells((((0, 0), 1),), book_determinant, 2, book)
        chance = Random(164)
        for r in (1, 2, 3):
            self.tells((), book_determinant, r, ((),) * r)
            self.tells((((0,) * r, 1),), book_determinant, r, steps_of(r))
            self.tells(tuple((0,) * k + (1,) + (0,) * (r - k - 1) for k in range(r)), book_ends, r, steps_of(r))
            for _ in range(25):
                book = some_book(chance, r, 10)
                self.tells(tuple(row_end(r, row) for row in book), book_ends, r, book)
                self.tells(table_by_hand(r, book), book_table, r, book)
                self.tells(determinant_by_hand(r, table_by_hand(r, book)), book_determinant, r, book)
                # What is put has the sides that the table tells.
                row = some_row(chance, r, 10)
                sides = table_by_hand(r, (row,))
                led = led_table(book_ends(r, book), sides)
                self.same(table_by_hand(r, (put(r, book, row),)), table_times(led, book_table(r, book)))

    def test_alike(self):
        chance = Random(165)
        self.tells(True, books_alike, 2, ((1,), (2,)), ((1, 2, -2), (1, -1, 2)))
        self.tells(False, books_alike, 2, ((1,), (2,)), ((2,), (1,)))
        self.tells(True, books_alike, 2, (LOOP + (-1, 2, 1, -2), (2,)), ((-1, 2, 1, -2) + LOOP, (2,)))
        self.tells(False, books_alike, 2, (LOOP, (2,)), ((-1, 2, 1, -2), (2,)))
        for r in (1, 2, 3):
            for _ in range(20):
                book = some_book(chance, r, 8)
                self.tells(True, books_alike, r, book, book)
                other = tuple(alike_row(chance, r, row) for row in book)
                self.tells(True, books_alike, r, book, other)
                self.tells(True, books_alike, r, other, book)
                k = chance.randrange(r)
                wrong = other[:k] + (other[k] + (1,),) + other[k + 1:]
                self.tells(False, books_alike, r, book, wrong)
                wrong = other[:k] + (other[k] + LOOP,) + other[k + 1:]
                if r > 1:
                    self.tells(False, books_alike, r, book, wrong)

    def test_errors(self):
        for r in (1, 2, 3):
            good = steps_of(r)
            for thing in no_books(r):
                for function in (book_ends, book_table, book_determinant, judge_back, is_taken_back, leader_of):
                    self.refuses(BadBook(thing), function, r, thing)
                for function in (behind, books_alike):
                    self.refuses(BadBook(thing), function, r, thing, good)
                    self.refuses(BadBook(thing), function, r, good, thing)
                    self.refuses(BadBook(thing), function, r, thing, None)
                for row in ((), (1,), None, [1], (0,)):
                    self.refuses(BadBook(thing), put, r, thing, row)
                self.refuses(BadBook(thing), back_holds, r, thing, ("back", good))
                self.refuses(BadBook(thing), back_holds, r, thing, thing)
            for thing in NOTHING + ((r + 1,), (0,), (-r - 1,), (True,), [1], 1, (1, None)):
                self.refuses(BadRow(thing), put, r, good, thing)
                self.refuses(BadRow(thing), put, r, ((),) * r, thing)


def is_right(r, book, thing):
    """Whether a value is a certificate [8.4]."""
    if type(thing) is not tuple or len(thing) != 2:
        return False
    if thing[0] == "back":
        if not right_book(r, thing[1]):
            return False
        both = [tuple(put_by_hand(one, row) for row in other) for one, other in ((book, thing[1]), (thing[1], book))]
        return all(show_of(r, row) == show_of(r, (i + 1,)) for rows in both for i, row in enumerate(rows))
    if thing[0] == "determinant":
        product = determinant_by_hand(r, table_by_hand(r, book))
        return repr(thing[1]) == repr(product) and not (len(product) == 1 and product[0][1] in (1, -1))
    return False


class TakenBack(Case):

    def check(self, r, book):
        certificate = judge_back(r, book)
        self.assertIs(is_right(r, book, certificate), True, (r, book, certificate))
        self.assertIs(back_holds(r, book, certificate), True)
        self.same(judge_back(r, book), certificate)
        product = determinant_by_hand(r, table_by_hand(r, book))
        taken = len(product) == 1 and product[0][1] in (1, -1)
        self.assertIs(is_taken_back(r, book), taken)
        self.assertEqual(certificate[0], "back" if taken else "determinant")
        self.assertIs(back_holds(r, book, ("determinant", product)), not taken)
        if taken:
            back = certificate[1]
            # The two take each other back.
            self.assertIs(back_holds(r, back, ("back", book)), True)
            self.assertTrue(books_alike(r, behind(r, book, back), steps_of(r)))
            self.assertTrue(books_alike(r, behind(r, back, book), steps_of(r)))
        return certificate

    def test_single_exchanges(self):
        """Books by single exchanges of single steps, and the exchanges that take them back."""
        for r in (1, 2, 3):
            self.assertEqual(self.check(r, steps_of(r))[0], "back")
            self.tells(True, back_holds, r, steps_of(r), ("back", steps_of(r)))
            for i in range(r):
                undone = steps_of(r)[:i] + ((-i - 1,),) + steps_of(r)[i + 1:]
                self.assertEqual(self.check(r, undone)[0], "back")
                self.tells(True, back_holds, r, undone, ("back", undone))
                self.tells(False, back_holds, r, undone, ("back", steps_of(r)))
                for j in range(1, r + 1):
                    for step in (j, -j):
                        if j == i + 1:
                            continue
                        for row, back in (((step, i + 1), (-step, i + 1)), ((i + 1, step), (i + 1, -step)), ((step, i + 1, -step), (-step, i + 1, step))):
                            book = steps_of(r)[:i] + (row,) + steps_of(r)[i + 1:]
                            self.assertEqual(self.check(r, book)[0], "back")
                            other = steps_of(r)[:i] + (back,) + steps_of(r)[i + 1:]
                            self.tells(True, back_holds, r, book, ("back", other))
                            self.tells(True, back_holds, r, other, ("back", book))
                            self.tells(False, back_holds, r, book, ("back", book))
                            self.tells(False, back_holds, r, book, ("determinant", book_determinant(r, book)))
        for book in (((2,), (1,)), ((-2,), (1,)), ((2,), (3,), (1,)), ((3,), (-2,), (1,))):
            self.assertEqual(self.check(len(book), book)[0], "back")

    def test_made_books(self):
        chance = Random(166)
        for r in (1, 2, 3):
            for times in (1, 3, 6, 12):
                for _ in range(25):
                    book = made_book(chance, r, times)
                    back = self.check(r, book)[1]
                    self.assertIs(is_taken_back(r, book), True)
                    # All books that do it are alike.
                    other = tuple(alike_row(chance, r, row) for row in back)
                    self.assertIs(back_holds(r, book, ("back", other)), True)
                    k = chance.randrange(r)
                    wrong = [other[:k] + (other[k] + LOOP if r > 1 else other[k] + (1,),) + other[k + 1:], other[:k] + (undone_row(r, other[k]),) + other[k + 1:],
                             other[1:] + other[:1] if r > 1 else (), list(back), back + ((),), back[1:]]
                    for thing in wrong:
                        self.assertIs(back_holds(r, book, ("back", thing)), False)

    def test_by_hand(self):
        """Books that are made with the books that take them back, in both orders."""
        chance = Random(167)
        for r in (1, 2, 3):
            for _ in range(60):
                book = back = steps_of(r)
                for _ in range(chance.randint(1, 7)):
                    i = chance.randrange(r)
                    step = chance.choice([k for k in range(-r, r + 1) if k and abs(k) != i + 1] or [0])
                    way = chance.randrange(4) if r > 1 else 0
                    row, undone = (((-i - 1,),) * 2, ((step, i + 1), (-step, i + 1)), ((i + 1, step), (i + 1, -step)),
                                   ((step, i + 1, -step), (-step, i + 1, step)))[way]
                    one, other = (steps_of(r)[:i] + (line,) + steps_of(r)[i + 1:] for line in (row, undone))
                    made, unmade = behind(r, book, one), behind(r, other, back)
                    made, unmade = (tuple(reduced_row(r, line) for line in lines) for lines in (made, unmade))
                    if fits(made) and fits(unmade, 40, 80):
                        book, back = made, unmade
                self.assertIs(back_holds(r, book, ("back", back)), True)
                self.assertTrue(books_alike(r, self.check(r, book)[1], back))

    def test_not_reduced(self):
        """Rows that are not reduced, 12 steps long, 30 steps together."""
        chance = Random(168)
        for r in (1, 2, 3):
            for _ in range(30):
                book = list(made_book(chance, r, 5))
                for k in chance.sample(range(r), r):
                    while len(book[k]) < 11 and sum(map(len, book)) < 29:
                        at, step = chance.randint(0, len(book[k])), chance.choice((1, -1)) * chance.randint(1, r)
                        book[k] = book[k][:at] + (step, -step) + book[k][at:]
                self.assertTrue(fits(book))
                self.assertEqual(self.check(r, tuple(book))[0], "back")
        long = ((1, 2) + (2, -2) * 5, (2,) + (1, -1) * 5, (3,) + (-3, 3, 1, -1) * 1)
        self.assertEqual([len(row) for row in long], [12, 11, 5])
        self.assertEqual(self.check(3, long)[0], "back")
        # A row that the stiles do not see.
        self.tells(True, back_holds, 2, ((1,), (2,)), ("back", ((1,) + NOT_SEEN, NOT_SEEN + (2,))))

    def test_around(self):
        """Steps with a round trip around them, that no single exchanges show."""
        chance = Random(169)
        for r in (2, 3):
            for _ in range(30):
                ahead = some_row(chance, r, 4)
                book = tuple(reduced_row(r, ahead + (i,) + undone_row(r, ahead)) for i in range(1, r + 1))
                self.assertEqual(self.check(r, book)[0], "back")
                back = tuple(undone_row(r, ahead) + (i,) + ahead for i in range(1, r + 1))
                self.assertIs(back_holds(r, book, ("back", back)), True)

    def test_no_units(self):
        chance = Random(170)
        self.tells(("determinant", (((0, 0), 1), ((1, 0), 1))), judge_back, 2, ((1, 1), (2,)))
        self.tells(False, is_taken_back, 2, ((1, 1), (2,)))
        self.tells(True, is_taken_back, 2, ((2, 1, -2), (2,)))
        # The determinant shows -1 at the beginning where all powers are left out, but is no unit.
        book = ((1, 2, -1, -2, 1), (2,))
        self.assertEqual(self.check(2, book)[0], "determinant")
        self.assertEqual(book_ends(2, book), ((1, 0), (0, 1)))
        found = {"back": 0, "determinant": 0}
        for r in (1, 2, 3):
            for most in (1, 2, 3, 5, 10):
                for _ in range(40):
                    book = some_book(chance, r, most)
                    word, thing = self.check(r, book)
                    found[word] += 1
                    if word == "determinant":
                        for wrong in (scaled(thing, -1) or (((0,) * r, 1),), scaled(thing, 2) or (((0,) * r, 2),), thing + (((99,) * r, 1),), thing[1:] + (((99,) * r, 1),),
                                      list(thing), (((0,) * r, 1),)):
                            self.assertIs(back_holds(r, book, ("determinant", wrong)), False)
                        for back in (steps_of(r), book, made_book(chance, r, 3)):
                            self.assertIs(back_holds(r, book, ("back", back)), False)
        self.assertGreater(min(found.values()), 60)

    def test_one_side_only(self):
        """A book behind which another one gives single steps, if there is one, gives them the other way round, too."""
        for r in (1, 2, 3):
            self.tells(False, back_holds, r, ((),) * r, ("back", steps_of(r)))
            self.tells(False, back_holds, r, steps_of(r), ("back", ((),) * r))
            self.tells(("determinant", ()), judge_back, r, ((),) * r)
            self.tells(True, back_holds, r, ((),) * r, ("determinant", ()))

    def test_any_certificate(self):
        chance = Random(171)
        books = [((1, 2), (2,)), ((1, 1), (2,)), ((2,), (-1,)), ((), ()), ((2, 1, -2), (2,)), ((1, 2, -1, -2, 1), (2,))]
        for book in books:
            for thing in NOTHING + ("back", ("back",), ("determinant",), ("back", None), ("back", ()), ("determinant", None), ("back", [(1,), (2,)]), ("back", ([1], (2,))),
                                    ("back", ((1,), (2,)), ()), ("back", ((True,), (2,))), ("determinant", [((0, 0), 1)]), ({}, ()), ("Back", ((1,), (2,)))):
                self.assertIs(back_holds(2, book, thing), is_right(2, book, thing), (book, thing))
            for word in (judge_back(2, book), ("back", ((1, -2), (2,))), ("determinant", (((0, 0), 1), ((1, 0), 1)))):
                for thing in near_misses(chance, word, 150):
                    self.assertIs(back_holds(2, book, thing), is_right(2, book, thing), (book, thing))
        for r in (1, 3):
            book = made_book(chance, r, 4)
            for thing in near_misses(chance, judge_back(r, book), 150):
                self.assertIs(back_holds(r, book, thing), is_right(r, book, thing), (book, thing))
        self.told(judge_back, 2, ((1, 2), (2,)))
        self.told(judge_back, 3, made_book(chance, 3, 6))


class Leaders(Case):

    def check(self, r, book):
        row = leader_of(r, book)
        self.same(leader_of(r, book), row)
        if row is not None:
            self.assertTrue(is_row(r, row))
            for i in range(1, r + 1):
                self.assertTrue(rows_alike(r, row + (i,) + undone_row(r, row), book[i - 1]))
        return row

    def test_around_all(self):
        chance = Random(172)
        for r in (1, 2, 3):
            for most in (0, 1, 3, 5):
                for _ in range(20):
                    ahead = some_row(chance, r, most)
                    book = tuple(ahead + (i,) + undone_row(r, ahead) for i in range(1, r + 1))
                    short = tuple(reduced_row(r, row) for row in book)
                    other = tuple(alike_row(chance, r, row) for row in short)
                    for lines in (book, short, other):
                        row = self.check(r, lines)
                        self.assertIsNotNone(row)
                        if r > 1:
                            # Only rows that are alike do it.
                            self.assertTrue(rows_alike(r, row, ahead))
            self.assertEqual(show_of(r, self.told(leader_of, r, steps_of(r))), ())

    def test_none(self):
        self.tells(None, leader_of, 2, ((1, 2), (2,)))
        self.tells(None, leader_of, 2, ((2,), (1,)))
        self.tells(None, leader_of, 2, ((2, 1, -2), (1, 1, 2, -1, -1, 1, 2, -1, -2)))
        self.tells(None, leader_of, 2, ((1, 2, -1, -2, 1), (2,)))
        for r in (1, 2, 3):
            self.tells(None, leader_of, r, ((),) * r)
            self.tells(None, leader_of, r, ((-1,),) + steps_of(r)[1:])
        # Each of the rows is led to by some row, but all of them by none.
        self.tells(None, leader_of, 3, ((2, 1, -2), (2,), (3,)))
        self.tells(None, leader_of, 3, ((1,), (1, 2, -1), (3,)))
        self.tells(None, leader_of, 3, ((3, 2, 1, -2, -3), (3, 2, -3), (2, 3, -2)))
        self.tells(None, leader_of, 3, ((2, 2, 1, -2, -2), (2,), (2, 3, -2)))
        chance = Random(173)
        for r in (2, 3):
            for _ in range(60):
                ahead, beside = some_row(chance, r, 4), some_row(chance, r, 4)
                if rows_alike(r, ahead, beside):
                    continue
                rows = [ahead + (1,) + undone_row(r, ahead)] + [beside + (i,) + undone_row(r, beside) for i in range(2, r + 1)]
                row = self.check(r, tuple(rows))
                if row is not None:
                    self.assertTrue(rows_alike(r, row + (1,) + undone_row(r, row), rows[0]))
                    self.assertTrue(rows_alike(r, row, beside) or r == 2)
                    self.assertTrue(r == 2 or rows_alike(r, ahead + (1,) + undone_row(r, ahead), row + (1,) + undone_row(r, row)))

    def test_two_directions(self):
        """With two directions all books with the ends of single steps that can be taken back are led to by some row."""
        chance = Random(174)
        found = 0
        for _ in range(3000):
            book = made_book(chance, 2, 9)
            if book_ends(2, book) == ((1, 0), (0, 1)):
                found += 1
                self.assertIsNotNone(self.check(2, book))
        self.assertGreater(found, 40)
        for _ in range(300):
            book = (some_row(chance, 2, 5), some_row(chance, 2, 5))
            if self.check(2, book) is not None:
                self.assertIs(is_taken_back(2, book), True)
            elif book_ends(2, book) == ((1, 0), (0, 1)):
                self.assertIs(is_taken_back(2, book), False)

    def test_one_direction(self):
        for row in ((1,), (1, -1, 1), (1, 1, -1), (-1, 1, 1, 1, -1)):
            self.assertIsNotNone(self.check(1, (row,)))
        for row in ((), (-1,), (1, 1), (-1, 1)):
            self.tells(None, leader_of, 1, (row,))


class Listed(Case):

    def test_lists(self):
        book = ((1, 2), (2,))
        for thing in listed(book):
            self.tells(False, is_book, 2, thing)
            self.refuses(BadBook(thing), book_table, 2, thing)


if __name__ == "__main__":
    unittest.main()
