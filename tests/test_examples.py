"""The examples of the document, as they stand there."""

import unittest

from stilewalks import errors
from tests.helping import Case

SCRIPTS = """
>>> from stilewalks.scripts import end_of, is_script, length_of, read_script, row_of, script_text
>>> script = ('around', 1, ('again', 3, 2))
>>> [row_of(2, script), end_of(2, script), length_of(2, ('again', 10 ** 30, script)), script_text(2, script), read_script(2, '(row 1 (back -2))'), is_script(1, script)]
[(1, 2, 2, 2, -1), (0, 3), 5000000000000000000000000000000, '(around 1 (again 3 2))', ('row', 1, ('back', -2)), False]
>>> from stilewalks.scripts import reduced_row, row_end, undone_row
>>> [row_end(2, (1, 1, -2)), undone_row(2, (1, 2, 2)), reduced_row(2, (1, 2, -2, -1, 2))]
[(2, -1), (-2, -2, -1), (2,)]
>>> from stilewalks.scripts import row_of
>>> row_of(1, ('again', 401, 1))
raises TooLong(401)
"""

SHOWS = """
>>> from stilewalks.shows import left_over, rows_alike, show_of
>>> one, other = (1, 2, -1, -2), (-1, 2, 1, -2)
>>> [show_of(2, (1, 1, 2)), show_of(2, (1, -1, 2)), show_of(2, one), left_over(2, show_of(2, (1, 1, 2))), rows_alike(2, one + other, other + one), rows_alike(2, (1, 2), (2, 1))]
[(((0, 0), 1, 1), ((1, 0), 1, 1), ((2, 0), 2, 1)), (((0, 0), 2, 1),), (((0, 0), 1, 1), ((0, 0), 2, -1), ((0, 1), 1, -1), ((1, 0), 2, 1)), (((0, 0), 1), ((2, 1), -1)), True, False]
>>> from stilewalks.shows import moved, number_in, plus, times
>>> [moved(1, (((0,), 1, 2),), (-3,)), plus(1, (((0,), 1, 2),), (((0,), 1, -2), ((1,), 1, 1))), times(1, -2, (((5,), 1, 3),)), number_in(1, (((0,), 1, 2),), (1,), 1)]
[(((-3,), 1, 2),), (((1,), 1, 1),), (((5,), 1, -6),), 0]
>>> from stilewalks.shows import number_in
>>> number_in(1, (), (0,), 2)
raises BadPassage(((0,), 2))
"""

QUOTIENTS = """
>>> from stilewalks.quotients import number_at, quotient_holds
>>> far = 10 ** 30
>>> script = ('again', far, ('row', 1, 2))
>>> [quotient_holds(2, script, 1, ((((0, 0), 1), ((far, far), -1)), ((1, 1),))), quotient_holds(2, script, 1, ((((0, 0), 1),), ((1, 1),))), number_at(2, script, (5, 5), 1), number_at(2, script, (5, 4), 1), number_at(2, script, (far, far - 1), 2), number_at(2, script, (far + 1, far), 2)]
[True, False, 1, 0, 1, 0]
>>> from stilewalks.quotients import number_at, quotient_holds
>>> nest = ('again', 3, ('row', ('again', 4, 1), -1))
>>> [number_at(1, nest, (3,), 1), number_at(1, nest, (9,), 1), quotient_holds(1, ('row', 1, 1), 1, ((((0,), 1), ((1,), 1)), ())), quotient_holds(1, ('row', 1, 1), 1, ((((0,), 1), ((2,), -1)), ((1,),)))]
[1, 0, True, True]
"""

ALIKE_AND_ROLLED = """
>>> from stilewalks.alike import alike_holds, are_alike, judge_alike
>>> far = 10 ** 30
>>> two, one = ('again', far, ('row', 1, 1)), ('again', 2 * far, 1)
>>> [are_alike(1, two, one), judge_alike(1, one, 1)[0], alike_holds(2, ('row', 1, 2), ('row', 2, 1), ('stile', (0, 0), 1, 1, 0)), alike_holds(2, ('row', 1, 2), ('row', 2, 1), ('alike',)), judge_alike(1, 1, 1)]
[True, 'ends', True, False, ('alike',)]
>>> from stilewalks.alike import alike_in
>>> [alike_in(1, ('again', 3, 1), 1, (1, 2)), alike_in(1, ('again', 3, 1), 1, (1, 0)), alike_in(2, ('row', 1, 2), ('row', 2, 1), (0, 2))]
[True, False, False]
>>> from stilewalks.rolled import rolled_show
>>> [rolled_show(1, ('again', 7, 1), (3, 0)), rolled_show(1, ('again', 7, 1), (3, 2)), rolled_show(2, ('row', 1, 1, 2), (2, 2))]
[(((0,), 1, 3), ((1,), 1, 2), ((2,), 1, 2)), (((0,), 1, 1),), (((0, 0), 1, 1), ((0, 0), 2, 1), ((1, 0), 1, 1))]
>>> from stilewalks.rolled import odd_widths, parting_hall
>>> [parting_hall(2, (1, 2), (2, 1)), parting_hall(1, (1, 1, 1), (1,)), parting_hall(1, (1, -1), ()), odd_widths(2, (1, 2), (2, 1), 0), odd_widths(1, (1, 1, 1), (1,), 2)]
[(2, 2), (1, 3), None, ((1,), False), ((1,), False)]
"""

BUILT_AND_HEIGHTS = """
>>> from stilewalks.built import is_balanced, judge_show, pieces_of, show_holds
>>> square = (((2, 0), 1, 1), ((2, 0), 2, -1), ((2, 1), 1, -1), ((3, 0), 2, 1))
>>> [is_balanced(2, square), pieces_of(2, square), judge_show(1, (((0,), 1, 1), ((1,), 1, 1))), judge_show(1, (((3,), 1, 1),)), show_holds(1, (((3,), 1, 1),), ('room', (3,))), show_holds(1, (((0,), 1, 1),), ('row', (1, 1, -1)))]
[True, (((2, 0), (2, 1), (3, 0), (3, 1)),), ('row', (1, 1)), ('room', (3,)), True, True]
>>> from stilewalks.built import row_for
>>> row_for(1, (((3,), 1, 1),))
raises NotBalanced(('room', (3,)))
>>> from stilewalks.heights import area_of, heights_of, show_of_heights, square_row
>>> square = (((2, 0), 1, 1), ((2, 0), 2, -1), ((2, 1), 1, -1), ((3, 0), 2, 1))
>>> [heights_of(square), area_of(square), show_of_heights((((0, 0), 1), ((0, 1), 1))), heights_of(()), len(square_row((0, 0))) >= 4]
[(((2, 0), 1),), 1, (((0, 0), 1, 1), ((0, 0), 2, -1), ((0, 1), 2, -1), ((0, 2), 1, -1), ((1, 0), 2, 1), ((1, 1), 2, 1)), (), True]
>>> from stilewalks.heights import heights_of
>>> heights_of((((0, 0), 1, 1),))
raises NotClosed((((0, 0), 1, 1),))
"""

LED = """
>>> from stilewalks.led import first_room, is_led, leading_rooms, led_holds, rolled_along
>>> from stilewalks.shows import show_of
>>> [first_room(2, (5, 1), (2, 3)), rolled_along(2, show_of(2, (2, 1, -2)), (1, 0)), leading_rooms(2, (1,), (2, 1, -2)), led_holds(2, (1,), (2, 1, -2), ('row', (2,))), is_led(2, (1, 1), (1, 2, 1, -2))]
[(1, -5), (((0, 1), 1, 1),), ((0, 1),), True, False]
>>> from stilewalks.led import judge_led, led_holds
>>> [judge_led(2, (1,), (2,)), led_holds(2, (1, 1), (1, 2, 1, -2), ('stiles', (((0, 0), ((0, 0), 2)), ((1, 1), ((0, 0), 1)))))]
[('ends', (1, 0), (0, 1)), True]
"""

PARTS = """
>>> from stilewalks.parts import judge_part, part_holds, part_of, root_of
>>> [judge_part(2, (1, 1, 2), 2), part_holds(2, (1, 2, 1, 2), 2, ('part', (1, 2))), part_holds(2, (1, 1, 2, 2), 2, ('moved', ((0, 0), 1))), part_of(2, (1, 2, -1, -2), 2), root_of(1, (1, 1, 1))[1]]
[('end', 1), True, True, None, 3]
>>> from stilewalks.parts import root_of
>>> root_of(2, (1, -1))
raises BadRow((1, -1))
"""

ORDERS = r"""
>>> from stilewalks.parts import judge_part, part_holds, part_of, root_of
>>> [judge_part(2, (1, 1, 2), 2), part_holds(2, (1, 2, 1, 2), 2, ('part', (1, 2))), part_holds(2, (1, 1, 2, 2), 2, ('moved', ((0, 0), 1))), part_of(2, (1, 2, -1, -2), 2), root_of(1, (1, 1, 1))[1]]
[('end', 1), True, True, None, 3]
>>> from stilewalks.orders import is_either_order, order_holds
>>> [order_holds(2, (1, 2), (-2, -1, -2, -1), ('row', (1, 2), 1, -2)), order_holds(2, (1, 2, -1, -2), (2, 1, -2, -1), ('closed',)), is_either_order(2, (1,), (2,)), order_holds(2, (1,), (2,), ('passage', ((1, 0), 2)))]
[True, True, False, True]
>>> from stilewalks.parts import root_of
>>> root_of(2, (1, -1))
raises BadRow((1, -1))
"""

BOOKS = r"""
>>> from stilewalks.books import back_holds, behind, book_determinant, book_ends, book_table, judge_back, leader_of, put
>>> book = ((1, 2), (2,))
>>> [put(2, book, (1, -2)), behind(2, book, ((1, -2), (2,))), book_ends(2, book), book_table(2, book), book_determinant(2, book), back_holds(2, book, ('back', ((1, -2), (2,))))]
[(1, 2, -2), ((1, 2, -2), (2,)), ((1, 1), (0, 1)), (((((0, 0), 1),), (((1, 0), 1),)), ((), (((0, 0), 1),))), (((0, 0), 1),), True]
>>> from stilewalks.books import is_taken_back, judge_back, leader_of
>>> [judge_back(2, ((1, 1), (2,))), is_taken_back(2, ((2, 1, -2), (2,))), leader_of(2, ((1, 2), (2,)))]
[('determinant', (((0, 0), 1), ((1, 0), 1))), True, None]
"""

TERM_SUMS = r"""
>>> from stilewalks.termsums import divided, is_unit, sum_times, value_at
>>> three, one = (((0,), -1), ((3,), 1)), (((0,), -1), ((1,), 1))
>>> [divided(1, three, one), divided(1, one, three), sum_times(1, one, one), is_unit(1, (((-7,), -1),)), value_at(1, (((0,), 1), ((1,), 1), ((2,), 1)), 7, (2,)), value_at(1, (((-1,), 1),), 7, (2,))]
[(((0,), 1), ((1,), 1), ((2,), 1)), None, (((0,), 1), ((1,), -2), ((2,), 1)), True, 0, 4]
>>> from stilewalks.termsums import determinant
>>> determinant(1, (((((1,), 1),), ()), ((((0,), 5),), (((2,), 3),))))
(((3,), 3),)
>>> from stilewalks.termsums import divided
>>> divided(1, (((0,), 1),), ())
raises BadSum(())
"""

TRIPS = r"""
>>> from stilewalks.trips import does_follow, follows_holds, least_base, many_rows, polynomial_of
>>> told = ((1, 1, 2, -1, -1, -2),)
>>> [polynomial_of(3, (((-1, 0), 4), ((0, 0), 3))), least_base(2, told), many_rows(2, told), does_follow(2, told, (1, 2, -1, -2))]
[(((0, 1, 1), 1),), ((((0, 0, 0), 1), ((1, 0, 0), 1)), (((0, 0, 0), 1), ((0, 1, 1), 1))), None, False]
>>> from stilewalks.trips import follows_holds, least_base, many_rows
>>> told = ((1, 1, 2, -1, -1, -2),)
>>> [follows_holds(2, told, (1, 2, -1, -2), ('barred', least_base(2, told))), follows_holds(2, told, (1, 2, -1, -2, 1, 1, 1, 2, -1, -2, -1, -1), ('sum', ((((0, 0), 1), ((1, 0), 1)),))), many_rows(5, ((1, 2, -1, -2),))]
[True, True, 1]
"""

FEWEST = r"""
>>> from stilewalks.fewest import fewest_joining, fewest_steps, shortest_row
>>> square = (((2, 0), 1, 1), ((2, 0), 2, -1), ((2, 1), 1, -1), ((3, 0), 2, 1))
>>> [fewest_joining(2, square), fewest_steps(2, square), fewest_steps(1, ()), fewest_steps(1, (((0,), 1, 1),)), shortest_row(1, (((0,), 1, 1),))]
[2, 8, 0, 1, (1,)]
>>> from stilewalks.fewest import fewest_steps
>>> fewest_steps(1, (((3,), 1, 1),))
raises NotBalanced(('room', (3,)))
"""

LAMPS = r"""
>>> from stilewalks.lamps import are_lamps_led, fewest_letters, form_of, judge_lamps_led, lamps_led_hold
>>> [form_of(3, (2, 1, 2, 2, 1, -2, -1)), fewest_letters(3, (1, ((0, 1), (1, 2), (2, 2)))), fewest_letters(2, (0, ((-1, 1), (2, 1)))), are_lamps_led(2, (2, 1), (1, 2)), judge_lamps_led(2, (2, 1, 1), (2, 1, 2, 1)), lamps_led_hold(2, (2, 1), (1, 2), ('row', (1,)))]
[(1, ((0, 1), (1, 2), (2, 2))), 6, 8, True, ('folds', (1, 0), (1, 1)), True]
>>> from stilewalks.lamps import form_of, lamp_part
>>> [form_of(2, lamp_part(2, (2, 1, 2, 1), 2)), lamp_part(2, (2, 1, 1), 2), lamp_part(2, (2,), 2), form_of(4, lamp_part(4, (2, 1, -1), 3))]
[(1, ((0, 1),)), None, None, (0, ((0, 3),))]
"""

WALKERS = r"""
>>> from stilewalks.shows import show_of
>>> from stilewalks.walkers import idle_numbers, judge_shares, shares_hold, together
>>> rows = ((1, 2, -1, -2), (1, 1, 2, -1, -1, -2))
>>> square = show_of(2, (1, 1, 2, -1, -2, -1))
>>> [together(1, ((1,), (1, 1), (-1,))), judge_shares(2, rows, square), shares_hold(2, rows[1:], show_of(2, rows[0]), ('weights', ((((0, 0), 1), 1), (((1, 0), 1), -1)), 0)), idle_numbers(2, rows)]
[(((-1,), 1, -1), ((0,), 1, 2), ((1,), 1, 1)), ('numbers', (-1, 1)), True, None]
"""

HOUSES = r"""
>>> from stilewalks.houses import House
>>> house = House(2)
>>> [house.put('a', (1, 2, -1, -2)), house.put('b', (2,)), house.make(('home', 'a')), house.around('a', 'b', 'a'), house.names(), house.text()]
[None, None, None, None, (('a', (2, 1, 2, -1, -2, -2)), ('b', (2,))), 'hall 2\nrow a 2 1 2 -1 -2 -2\nrow b 2\npromise home a']
>>> from stilewalks.houses import House, read_house
>>> house = House(2)
>>> house.put('a', (1, 2, -1, -2))
>>> house.put('b', (2,))
>>> house.around('a', 'b', 'a')
>>> [house.undo(), house.row_of('a'), house.redo(), house.leave('a'), house.names(), house.is_same(read_house('hall 2\nrow b 2'))]
[None, (1, 2, -1, -2), None, None, (('b', (2,)),), True]
>>> from stilewalks.houses import House
>>> house = House(2)
>>> house.put('a', (1, 2, -1, -2))
>>> house.make(('home', 'a'))
>>> house.behind('a', 'a', 'b')
raises NoName('b')
>>> from stilewalks.houses import House
>>> house = House(1)
>>> house.put('a', (1, -1))
>>> house.put('b', (1,))
>>> house.make(('home', 'a'))
>>> house.behind('a', 'a', 'b')
raises Broken(('home', 'a'), ('end', (1,)))
>>> from stilewalks.houses import read_house
>>> read_house('hall 2\nrow b 3')
raises BadText(2)
"""


class Examples(Case):
    """Each row behind >>> is run; a row behind it is what it tells or raises."""

    def play(self, text):
        names = {}
        rows = text.strip("\n").split("\n")
        compared = 0
        while rows:
            source = rows.pop(0)
            self.assertTrue(source.startswith(">>> "))
            if not rows or rows[0].startswith(">>> "):
                exec(source[4:], names)
                continue
            compared += 1
            expected = rows.pop(0)
            if expected.startswith("raises "):
                error = eval(expected[7:], dict(vars(errors)))
                with self.assertRaises(type(error)) as caught:
                    eval(source[4:], names)
                self.same(vars(caught.exception), vars(error))
            else:
                self.assertEqual(repr(eval(source[4:], names)), expected)
        return compared

    def test_scripts(self):
        self.assertEqual(self.play(SCRIPTS), 3)

    def test_shows(self):
        self.assertEqual(self.play(SHOWS), 3)

    def test_quotients(self):
        self.assertEqual(self.play(QUOTIENTS), 2)

    def test_alike_and_rolled(self):
        self.assertEqual(self.play(ALIKE_AND_ROLLED), 4)

    def test_built_and_heights(self):
        self.assertEqual(self.play(BUILT_AND_HEIGHTS), 4)

    def test_led(self):
        self.assertEqual(self.play(LED), 2)

    def test_parts(self):
        self.assertEqual(self.play(PARTS), 2)

    def test_orders(self):
        self.assertEqual(self.play(ORDERS), 3)

    def test_books(self):
        self.assertEqual(self.play(BOOKS), 2)

    def test_term_sums(self):
        self.assertEqual(self.play(TERM_SUMS), 3)

    def test_trips(self):
        self.assertEqual(self.play(TRIPS), 2)

    def test_fewest(self):
        self.assertEqual(self.play(FEWEST), 2)

    def test_lamps(self):
        self.assertEqual(self.play(LAMPS), 2)

    def test_walkers(self):
        self.assertEqual(self.play(WALKERS), 1)

    def test_houses(self):
        self.assertEqual(self.play(HOUSES), 5)


if __name__ == "__main__":
    unittest.main()
