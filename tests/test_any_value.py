"""[0.2] over the whole program: any value as `thing` and as each argument that may be wrong; nothing is changed."""

import importlib
import unittest
from random import Random

from stilewalks.errors import StileError
from stilewalks.houses import House, read_house
from stilewalks.shows import show_of
from stilewalks.trips import least_base
from tests.helping import ANY, FULL_HOUSE, HOUSE, INTERFACE, NEW_HOUSE, Case, near_misses

LOOP = (1, 2, -1, -2)
STRIP = (1, 1, 2, -1, -1, -2)
SQUARE = show_of(2, LOOP)
HEIGHTS = (((0, 0), 1), ((1, 0), -2))
SUM = (((0, 0), 2), ((1, 0), -1))
BOOK = ((1, 2), (2,))
TIE = (((0, 0, 0), 1), ((1, 1, 1), 1))
# For each function right arguments; those that may be wrong are told by their positions, with the errors they raise.
CALLS = {
    "is_room": (2, (0, 0)), "is_row": (2, LOOP), "is_script": (2, ("again", 3, ("row", 1, 2))),
    "end_of": (2, ("again", 3, 1)), "length_of": (2, ("again", 3, 1)), "script_text": (2, ("again", 3, 1)), "row_of": (2, ("again", 3, 1)),
    "read_script": (2, "(again 3 1)"), "row_end": (2, LOOP), "undone_row": (2, LOOP), "reduced_row": (2, LOOP),
    "is_show": (2, SQUARE), "show_of": (2, LOOP), "moved": (2, SQUARE, (1, 1)), "plus": (2, SQUARE, SQUARE), "times": (2, 3, SQUARE),
    "number_in": (2, SQUARE, (0, 0), 1), "left_over": (2, SQUARE), "rows_alike": (2, LOOP, LOOP),
    "quotient_of": (2, ("again", 3, 1), 1), "quotient_holds": (2, ("again", 3, 1), 1, ((((0, 0), 1), ((3, 0), -1)), ((1, 0),))),
    "number_at": (2, ("again", 3, 1), (0, 0), 1),
    "are_alike": (2, ("row", 1, 2), ("row", 2, 1)), "judge_alike": (2, ("row", 1, 2), ("row", 2, 1)),
    "alike_holds": (2, ("row", 1, 2), ("row", 2, 1), ("stile", (0, 0), 1, 1, 0)), "alike_in": (2, ("row", 1, 2), ("row", 2, 1), (2, 3)),
    "is_hall": ((2, 3),), "rolled_show": (2, ("row", 1, 2), (2, 3)), "parting_hall": (2, LOOP, (1,)), "odd_widths": (2, LOOP, (1,), 2),
    "judge_show": (2, SQUARE), "show_holds": (2, SQUARE, ("row", LOOP)), "is_balanced": (2, SQUARE), "row_for": (2, SQUARE), "pieces_of": (2, SQUARE),
    "is_heights": (HEIGHTS,), "heights_of": (SQUARE,), "show_of_heights": (HEIGHTS,), "area_of": (SQUARE,), "square_row": ((1, 1),),
    "rolled_along": (2, SQUARE, (1, 0)), "first_room": (2, (1, 1), (1, 0)), "is_led": (2, (1,), (2, 1, -2)), "judge_led": (2, (1,), (2, 1, -2)),
    "led_holds": (2, (1, 1), (1, 2, 1, -2), ("stiles", (((0, 0), ((0, 0), 2)), ((1, 1), ((0, 0), 1))))), "leading_rooms": (2, (1,), (2, 1, -2)),
    "judge_part": (2, LOOP, 2), "part_holds": (2, LOOP, 2, ("passage", ((0, 0), 1))), "part_of": (2, LOOP, 2), "root_of": (2, LOOP),
    "is_either_order": (2, LOOP, (1,)), "judge_order": (2, LOOP, (1,)), "order_holds": (2, (1,), (1, 1), ("row", (1,), 1, 2)),
    "is_book": (2, BOOK), "put": (2, BOOK, LOOP), "behind": (2, BOOK, BOOK), "book_ends": (2, BOOK), "book_table": (2, BOOK), "book_determinant": (2, BOOK),
    "books_alike": (2, BOOK, BOOK), "judge_back": (2, BOOK), "back_holds": (2, BOOK, ("back", ((1, -2), (2,)))), "is_taken_back": (2, BOOK), "leader_of": (2, BOOK),
    "is_sum": (2, SUM), "sum_plus": (2, SUM, SUM), "sum_times": (2, SUM, SUM), "sum_moved": (2, SUM, (1, 1)), "is_unit": (2, (((0, 0), 1),)),
    "divided": (2, SUM, SUM), "determinant": (2, ((SUM, ()), (SUM, SUM))), "value_at": (2, SUM, 7, (1, 2)),
    "polynomial_of": (3, HEIGHTS), "is_base": (2, (TIE,)), "is_closed_base": (2, (TIE,)), "rest_by": (2, TIE, (TIE,)),
    "does_follow": (2, (STRIP,), LOOP), "judge_follows": (2, (STRIP,), LOOP), "follows_holds": (2, (STRIP,), LOOP, ("barred", least_base(2, (STRIP,)))),
    "least_base": (2, (STRIP,)), "many_rows": (2, (STRIP,)),
    "fewest_joining": (2, SQUARE), "fewest_steps": (2, SQUARE), "shortest_row": (2, SQUARE),
    "is_lamp_row": ((1, 2),), "is_form": (3, (1, ((0, 1),))), "form_of": (3, (1, 2)), "fewest_letters": (3, (1, ((0, 1),))), "shortest_lamp_row": (3, (1, ((0, 1),))),
    "judge_lamps_led": (3, (1, 2), (2, 1)), "lamps_led_hold": (3, (1, 2), (2, 1), ("row", (-1,))), "are_lamps_led": (3, (1, 2), (2, 1)), "lamp_part": (3, (1, 2, 1, 2), 2),
    "together": (2, (LOOP, (1,))), "judge_shares": (2, (LOOP, STRIP), SQUARE), "shares_hold": (2, (LOOP, STRIP), SQUARE, ("numbers", (1, 0))),
    "can_be_shared": (2, (LOOP, STRIP), SQUARE), "idle_numbers": (2, (LOOP, STRIP)),
    "read_house": ("hall 2\nrow a 1",),
}
# Positions of arguments for which any value is passed: beside `thing`, those that errors are named for.
WRONG = {"script", "text", "row", "show", "room", "i", "hall", "one", "other", "heights", "d", "n", "book", "terms", "table", "point", "polynomial", "base", "form"}
# Arguments of these names are always right in these functions.
RIGHT = {("quotient_of", "i"), ("quotient_holds", "i")}


def drawn(chance, depth):
    """Any value [0.2]."""
    way = chance.randrange(12)
    if depth == 0 or way < 5:
        return chance.choice((None, True, False, 0, 1, -1, 2, chance.randint(-10 ** 40 + 1, 10 ** 40 - 1), "", "row", "back", "a", "hall 2", " ~\n" * 5, NEW_HOUSE, FULL_HOUSE,
                              House(3), read_house("hall 1\nrow a 1")))
    parts = [drawn(chance, depth - 1) for _ in range(chance.randint(0, 4))]
    if way < 9:
        return tuple(parts)
    if way < 11:
        return parts
    return {chance.choice(("a", 1, None, (1, 2), True, "row", 5)): part for part in parts}


class AnyValue(Case):

    def functions(self):
        for module, functions in INTERFACE.items():
            for name, parameters in functions.items():
                yield getattr(importlib.import_module(f"stilewalks.{module}"), name), parameters, CALLS[name]

    def test_all_told(self):
        self.assertEqual(len(CALLS), sum(len(functions) for functions in INTERFACE.values()))
        for function, _, given in self.functions():
            self.told(function, *given) if function.__name__ != "read_house" else function(*given)

    def test_things(self):
        """What tells whether something is so tells True or False for any value, the same in each call."""
        chance = Random(261)
        for function, parameters, given in self.functions():
            if parameters[-1] != "thing":
                continue
            self.assertIs(function(*given), True, function)
            things = list(ANY) + near_misses(chance, given[-1], 150) + [drawn(chance, 6) for _ in range(150)]
            things += [call[-1] for call in CALLS.values()] + [call for call in CALLS.values()]
            for thing in things:
                before = repr(thing)
                told = function(*given[:-1], thing)
                self.assertIs(type(told), bool, (function, thing))
                self.assertIs(function(*given[:-1], thing=thing), told)
                self.assertEqual(repr(thing), before)

    def test_wrong_arguments(self):
        """Any value as an argument for which errors are named: the call tells something or raises one of the errors."""
        chance = Random(262)
        for function, parameters, given in self.functions():
            for k, parameter in enumerate(parameters):
                first = parameter == "p" and function.__name__ != "value_at"
                if parameter not in WRONG and not first or (function.__name__, parameter) in RIGHT:
                    continue
                things = list(ANY) + [drawn(chance, 6) for _ in range(60)]
                if type(given[k]) is tuple:
                    things += [thing for thing in near_misses(chance, given[k], 60) if len(repr(thing)) < 2000]
                for thing in things:
                    if self.is_beyond(parameter, thing):
                        continue
                    before = repr(thing)
                    values = given[:k] + (thing,) + given[k + 1:]
                    told = []
                    for _ in range(2):
                        try:
                            told.append((True, repr(function(*values)) if function.__name__ != "read_house" else None))
                        except StileError as error:
                            told.append((False, type(error), {name: repr(value) for name, value in vars(error).items()}))
                    self.assertEqual(told[0], told[1])
                    self.assertEqual(repr(thing), before)

    def is_beyond(self, parameter, thing):
        """Whether a value would be right, but is beyond the limits: those are not passed."""
        text = repr(thing)
        if any(len(word) > 12 for word in text.replace("-", " ").replace("(", " ").replace(")", " ").replace(",", " ").split() if word.isdigit()):
            return parameter in ("hall", "n", "script", "show", "form", "terms", "table", "point", "polynomial", "base", "heights", "one", "other", "room", "d")
        return len(text) > 1500 or parameter == "n" and type(thing) is int and thing > 10 ** 6

    def test_houses(self):
        """Any value for the methods of houses: what is wrong is told by an error and changes nothing."""
        chance = Random(263)
        for word, parameters in HOUSE.items():
            for thing in list(ANY) + [drawn(chance, 6) for _ in range(100)]:
                house = read_house("hall 2\nrow q 1 2 -1 -2\nrow w 2\npromise home q")
                before = house.text()
                given = [thing] * len(parameters)
                try:
                    told = getattr(house, word)(*given)
                except StileError:
                    self.assertEqual(house.text(), before)
                else:
                    self.assertTrue(told is None or word in ("names", "promises", "copied", "text", "is_same", "row_of"))
                    self.assertTrue(parameters == () or word == "is_same", (word, thing))


if __name__ == "__main__":
    unittest.main()
