"""The guarantee [0.3], sentence by sentence, over drawn inputs."""

import unittest
from random import Random

from stilewalks.alike import alike_holds, alike_in, are_alike, judge_alike
from stilewalks.books import back_holds, is_taken_back, judge_back
from stilewalks.built import is_balanced, judge_show, row_for, show_holds
from stilewalks.errors import Broken, NotBalanced
from stilewalks.fewest import fewest_steps, shortest_row
from stilewalks.heights import heights_of, show_of_heights
from stilewalks.houses import House
from stilewalks.led import is_led, judge_led, led_holds
from stilewalks.orders import is_either_order, judge_order, order_holds
from stilewalks.parts import judge_part, part_holds, part_of, root_of
from stilewalks.rolled import odd_widths, parting_hall
from stilewalks.scripts import row_end, undone_row
from stilewalks.shows import left_over, rows_alike, show_of
from stilewalks.trips import does_follow, follows_holds, judge_follows
from stilewalks.walkers import judge_shares, shares_hold
from tests.helping import Case
from tests.test_books import made_book, some_book
from tests.test_fewest import pieces_show, shows_within
from tests.test_heights import some_heights
from tests.test_houses import does_hold
from tests.test_led import alike_row
from tests.test_rows import some_row
from tests.test_scripts import some_script
from tests.test_shows import some_show
from tests.test_trips import round_trip


class Guarantee(Case):

    def test_scripts(self):
        """Two scripts are alike, or a stile or their ends are told at which they part; never both."""
        chance = Random(271)
        found = {}
        for r in (1, 2, 3, 4):
            for _ in range(40):
                one = some_script(chance, r, 3)
                other = chance.choice((("back", ("back", one)), ("row", one, 1, -1), some_script(chance, r, 3), ("row", one, r), ("around", r, one), ("row", one, ("around", 1, ("row", r, -r)), r, -r)))
                certificate = judge_alike(r, one, other)
                found[certificate[0]] = found.get(certificate[0], 0) + 1
                self.assertIs(alike_holds(r, one, other, certificate), True)
                self.assertIs(alike_holds(r, one, other, ("alike",)), certificate == ("alike",))
                self.assertIs(are_alike(r, one, other), certificate == ("alike",))
                if certificate != ("alike",):
                    continue
                # What is alike is alike in every hall.
                for hall in ((0, 0), (0, 2), (1, 0), (2, 3), (3, 0), (1, 10 ** 9)):
                    self.assertIs(alike_in(r, one, other, hall), True)
        self.assertEqual(sorted(found), ["alike", "ends", "stile"])

    def test_halls(self):
        """Rows that are alike are alike in every hall; others part in one."""
        chance = Random(272)
        for r in (1, 2, 3):
            for _ in range(20):
                one = some_row(chance, r, 15)
                other = alike_row(chance, r, one) if chance.random() < 0.5 else some_row(chance, r, 15)
                hall = parting_hall(r, one, other[:30])
                alike = rows_alike(r, one, other[:30])
                self.assertEqual(hall is None, alike)
                if alike:
                    self.same(odd_widths(r, one, other[:30], chance.choice((0, 2, 10 ** 9))), ((), True))
                else:
                    self.assertIs(alike_in(r, ("row",) + one, ("row",) + other[:30], hall), False)

    def test_shows(self):
        """A show is that of some row, which is told, or a room bars it; never both."""
        chance = Random(273)
        found = {}
        for r in (1, 2, 3, 4):
            for _ in range(60):
                show = chance.choice((some_show(chance, r, 6, 1), show_of(r, some_row(chance, r, 12)), show_of(r, some_row(chance, r, 60))))
                certificate = judge_show(r, show)
                found[certificate[0]] = found.get(certificate[0], 0) + 1
                self.assertIs(show_holds(r, show, certificate), True)
                self.assertIs(is_balanced(r, show), certificate[0] == "row")
                if certificate[0] == "row":
                    self.assertEqual(show_of(r, certificate[1]), show)
                    for room, _ in left_over(r, show) + (((5,) * r, 0),):
                        self.assertIs(show_holds(r, show, ("room", room)), False)
                else:
                    with self.assertRaises(NotBalanced):
                        row_for(r, show)
        self.assertIn("room", found)
        self.assertIn("row", found)

    def test_heights(self):
        """Each closed show of two directions has just one tuple of heights."""
        chance = Random(274)
        for _ in range(60):
            heights = some_heights(chance, 20, 4, 5)
            self.same(heights_of(show_of_heights(heights)), heights)
            row = round_trip(chance, 40)
            self.same(show_of_heights(heights_of(show_of(2, row))), show_of(2, row))

    def test_led(self):
        """A row leads one row to another one, and is told, or none does."""
        chance = Random(275)
        found = {}
        for r in (1, 2, 3):
            for _ in range(60):
                one, ahead = some_row(chance, r, 12), some_row(chance, r, 6)
                other = ahead + one + undone_row(r, ahead) if chance.random() < 0.4 else chance.choice((some_row(chance, r, 12), one[::-1], tuple(sorted(one))))
                word = judge_led(r, one, other)
                found[word[0]] = found.get(word[0], 0) + 1
                self.assertIs(led_holds(r, one, other, word), True)
                self.assertIs(is_led(r, one, other), word[0] == "row")
                self.assertIs(led_holds(r, one, other, ("row", ahead)), rows_alike(r, ahead + one + undone_row(r, ahead), other))
                if word[0] == "row":
                    self.assertTrue(rows_alike(r, word[1] + one + undone_row(r, word[1]), other))
                else:
                    for row in [()] + [some_row(chance, r, 6) for _ in range(10)]:
                        self.assertIs(rows_alike(r, row + one + undone_row(r, row), other), False)
        self.assertEqual(sorted(found), ["ends", "row", "stiles"])

    def test_parts(self):
        """A row has at most one n-th part, up to alike ones."""
        chance = Random(276)
        for r in (1, 2, 3):
            for _ in range(40):
                n = chance.randint(1, 5)
                row = some_row(chance, r, 8) * n
                for k in (n, n + 1, 2):
                    part = part_of(r, row, k)
                    self.assertIs(part_holds(r, row, k, judge_part(r, row, k)), True)
                    if part is None:
                        continue
                    self.assertTrue(rows_alike(r, part * k, row))
                    for other in (alike_row(chance, r, part), part + (1, -1), some_row(chance, r, 8), part[::-1]):
                        self.assertIs(part_holds(r, row, k, ("part", other)), rows_alike(r, part, other))

    def test_orders(self):
        """Two rows may be done in either order exactly if both are closed or both are repeats of one row."""
        chance = Random(277)
        found = {}
        for r in (1, 2, 3):
            for _ in range(80):
                row = some_row(chance, r, 5)
                one, other = (row * chance.randint(0, 3) for _ in range(2))
                if chance.random() < 0.5:
                    other = some_row(chance, r, 10)
                if chance.random() < 0.3:
                    one, other = (line + tuple(-step for step in sorted(line)) for line in (one, other))
                word = judge_order(r, one, other)
                found[word[0]] = found.get(word[0], 0) + 1
                self.assertIs(order_holds(r, one, other, word), True)
                self.assertIs(is_either_order(r, one, other), rows_alike(r, one + other, other + one))
                closed = not any(row_end(r, one) + row_end(r, other))
                repeats = word[0] == "row" or closed
                if not closed and any(row_end(r, one)) and any(row_end(r, other)):
                    # Both have one root, done or undone.
                    roots = [root_of(r, line)[0] for line in (one, other)]
                    repeats = any(rows_alike(r, roots[0], root) for root in (roots[1], undone_row(r, roots[1])))
                elif not closed:
                    repeats = not show_of(r, one) or not show_of(r, other)
                self.assertIs(is_either_order(r, one, other), repeats)
        self.assertEqual(sorted(found), ["closed", "passage", "row"])

    def test_books(self):
        """A book can be taken back, and the book that does it is told, or its determinant shows that it cannot; never both."""
        chance = Random(278)
        found = {}
        for r in (1, 2, 3):
            for _ in range(50):
                book = made_book(chance, r, 6) if chance.random() < 0.5 else some_book(chance, r, 4)
                word = judge_back(r, book)
                found[word[0]] = found.get(word[0], 0) + 1
                self.assertIs(back_holds(r, book, word), True)
                self.assertIs(is_taken_back(r, book), word[0] == "back")
                if word[0] == "determinant":
                    for _ in range(5):
                        self.assertIs(back_holds(r, book, ("back", made_book(chance, r, 3))), False)
        self.assertEqual(sorted(found), ["back", "determinant"])

    def test_trips(self):
        """A closed show follows from told ones, with factors, or a base bars it; never both."""
        chance = Random(279)
        found = {}
        for _ in range(150):
            p = chance.choice((2, 3, 5))
            told = tuple(round_trip(chance, 12) for _ in range(chance.randint(1, 2)))
            row = round_trip(chance, 16)
            word = judge_follows(p, told, row)
            found[word[0]] = found.get(word[0], 0) + 1
            self.assertIs(follows_holds(p, told, row, word), True)
            self.assertIs(does_follow(p, told, row), word[0] == "sum")
            other = judge_follows(p, told, row + row)
            # The certificate of another row is right for this one only if it is of the same kind.
            if follows_holds(p, told, row, other):
                self.assertEqual(other[0], word[0])
        self.assertEqual(sorted(found), ["barred", "sum"])

    def test_fewest(self):
        """No row with a told show has fewer steps than is told, and one has so few."""
        shows = shows_within(2, 6)
        for show, steps in shows.items():
            self.assertEqual(fewest_steps(2, show), steps)
            self.assertEqual(len(shortest_row(2, show)), steps)
        chance = Random(280)
        for _ in range(40):
            show = pieces_show(chance, 2, True)
            row = shortest_row(2, show)
            self.assertEqual((show_of(2, row), len(row)), (show, fewest_steps(2, show)))
            self.assertLessEqual(len(row), len(row_for(2, show)))

    def test_shares(self):
        chance = Random(281)
        found = {}
        for _ in range(80):
            rows = tuple(round_trip(chance, 20) for _ in range(chance.randint(1, 4)))
            show = chance.choice((show_of(2, rows[0] + rows[-1]), show_of(2, round_trip(chance, 12)), show_of(2, rows[0] * 2)))
            rows = tuple(row * chance.choice((1, 2)) for row in rows)
            word = judge_shares(2, rows, show)
            found[word[0]] = found.get(word[0], 0) + 1
            self.assertIs(shares_hold(2, rows, show, word), True)
        self.assertEqual(sorted(found), ["numbers", "weights"])

    def test_houses(self):
        """No promise of a house is ever broken, whatever is done in it, taken back and done again."""
        chance = Random(282)
        broken = 0
        for _ in range(60):
            r = chance.choice((1, 2, 3))
            house = House(r)
            row = some_row(chance, r, 4)
            loop = row + tuple(-step for step in sorted(row))
            for name, line in (("a", row), ("b", alike_row(chance, r, row)), ("c", row * 2), ("d", loop), ("e", (1,) + row + (-1,))):
                house.put(name, line)
            for promise in (("alike", "a", "b"), ("order", "a", "c"), ("home", "d"), ("led", "a", "e"), ("led", "b", "e"), ("order", "b", "c")):
                if chance.random() < 0.6:
                    house.make(promise)
            for _ in range(30):
                names = [name for name, _ in house.names()]
                one, other, third = (chance.choice(names) for _ in range(3))
                deed = chance.choice((("behind", one, other, third), ("around", one, other, third), ("back", one), ("undo",), ("redo",), ("undo",), ("by_book", some_book(chance, r, 2))))
                if deed[0] in ("behind", "around") and len(house.row_of(other)) * 2 + len(house.row_of(third)) > 40:
                    continue
                if deed[0] == "by_book" and max(len(line) for _, line in house.names()) > 20:
                    continue
                try:
                    getattr(house, deed[0])(*deed[1:])
                except Broken as error:
                    broken += 1
                    self.assertIn(error.promise, house.promises())
                except Exception as error:
                    self.assertIn(type(error).__name__, ("NothingToUndo", "NothingToRedo"))
                rows = dict(house.names())
                self.assertTrue(all(does_hold(r, rows, promise) for promise in house.promises()))
        self.assertGreater(broken, 100)


if __name__ == "__main__":
    unittest.main()
