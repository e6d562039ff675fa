"""What all tests use: calls by position and by name, comparisons that tell kinds apart, wrong values."""

import unittest

from stilewalks import errors
from stilewalks.houses import House, read_house

INTERFACE = {
    "scripts": {
        "is_room": ("r", "thing"),
        "is_row": ("r", "thing"),
        "is_script": ("r", "thing"),
        "end_of": ("r", "script"),
        "length_of": ("r", "script"),
        "script_text": ("r", "script"),
        "row_of": ("r", "script"),
        "read_script": ("r", "text"),
        "row_end": ("r", "row"),
        "undone_row": ("r", "row"),
        "reduced_row": ("r", "row"),
    },
    "shows": {
        "is_show": ("r", "thing"),
        "show_of": ("r", "row"),
        "moved": ("r", "show", "room"),
        "plus": ("r", "one", "other"),
        "times": ("r", "number", "show"),
        "number_in": ("r", "show", "room", "i"),
        "left_over": ("r", "show"),
        "rows_alike": ("r", "one", "other"),
    },
    "quotients": {
        "quotient_of": ("r", "script", "i"),
        "quotient_holds": ("r", "script", "i", "thing"),
        "number_at": ("r", "script", "room", "i"),
    },
    "alike": {
        "are_alike": ("r", "one", "other"),
        "judge_alike": ("r", "one", "other"),
        "alike_holds": ("r", "one", "other", "thing"),
        "alike_in": ("r", "one", "other", "hall"),
    },
    "rolled": {
        "is_hall": ("thing",),
        "rolled_show": ("r", "script", "hall"),
        "parting_hall": ("r", "one", "other"),
        "odd_widths": ("r", "one", "other", "figures"),
    },
    "built": {
        "judge_show": ("r", "show"),
        "show_holds": ("r", "show", "thing"),
        "is_balanced": ("r", "thing"),
        "row_for": ("r", "show"),
        "pieces_of": ("r", "show"),
    },
    "heights": {
        "is_heights": ("thing",),
        "heights_of": ("show",),
        "show_of_heights": ("heights",),
        "area_of": ("show",),
        "square_row": ("room",),
    },
    "led": {
        "rolled_along": ("r", "show", "d"),
        "first_room": ("r", "room", "d"),
        "is_led": ("r", "one", "other"),
        "judge_led": ("r", "one", "other"),
        "led_holds": ("r", "one", "other", "thing"),
        "leading_rooms": ("r", "one", "other"),
    },
    "parts": {
        "judge_part": ("r", "row", "n"),
        "part_holds": ("r", "row", "n", "thing"),
        "part_of": ("r", "row", "n"),
        "root_of": ("r", "row"),
    },
    "orders": {
        "is_either_order": ("r", "one", "other"),
        "judge_order": ("r", "one", "other"),
        "order_holds": ("r", "one", "other", "thing"),
    },
    "books": {
        "is_book": ("r", "thing"),
        "put": ("r", "book", "row"),
        "behind": ("r", "one", "other"),
        "book_ends": ("r", "book"),
        "book_table": ("r", "book"),
        "book_determinant": ("r", "book"),
        "books_alike": ("r", "one", "other"),
        "judge_back": ("r", "book"),
        "back_holds": ("r", "book", "thing"),
        "is_taken_back": ("r", "book"),
        "leader_of": ("r", "book"),
    },
    "termsums": {
        "is_sum": ("r", "thing"),
        "sum_plus": ("r", "one", "other"),
        "sum_times": ("r", "one", "other"),
        "sum_moved": ("r", "terms", "room"),
        "is_unit": ("r", "thing"),
        "divided": ("r", "one", "other"),
        "determinant": ("r", "table"),
        "value_at": ("r", "terms", "p", "point"),
    },
    "trips": {
        "polynomial_of": ("p", "heights"),
        "is_base": ("p", "thing"),
        "is_closed_base": ("p", "thing"),
        "rest_by": ("p", "polynomial", "base"),
        "does_follow": ("p", "told", "row"),
        "judge_follows": ("p", "told", "row"),
        "follows_holds": ("p", "told", "row", "thing"),
        "least_base": ("p", "told"),
        "many_rows": ("p", "told"),
    },
    "fewest": {
        "fewest_joining": ("r", "show"),
        "fewest_steps": ("r", "show"),
        "shortest_row": ("r", "show"),
    },
    "lamps": {
        "is_lamp_row": ("thing",),
        "is_form": ("p", "thing"),
        "form_of": ("p", "row"),
        "fewest_letters": ("p", "form"),
        "shortest_lamp_row": ("p", "form"),
        "judge_lamps_led": ("p", "one", "other"),
        "lamps_led_hold": ("p", "one", "other", "thing"),
        "are_lamps_led": ("p", "one", "other"),
        "lamp_part": ("p", "row", "n"),
    },
    "walkers": {
        "together": ("r", "rows"),
        "judge_shares": ("r", "rows", "show"),
        "shares_hold": ("r", "rows", "show", "thing"),
        "can_be_shared": ("r", "rows", "show"),
        "idle_numbers": ("r", "rows"),
    },
    "houses": {
        "read_house": ("text",),
    },
}
PARAMETERS = {name: parameters for part in INTERFACE.values() for name, parameters in part.items()}
HOUSE = {
    "names": (),
    "row_of": ("name",),
    "promises": (),
    "put": ("name", "row"),
    "behind": ("name", "one", "other"),
    "around": ("name", "one", "other"),
    "back": ("name",),
    "by_book": ("book",),
    "leave": ("name",),
    "make": ("thing",),
    "drop": ("thing",),
    "undo": (),
    "redo": (),
    "copied": (),
    "text": (),
    "is_same": ("thing",),
}


def deep(value, times):
    """A value within so many tuples."""
    for _ in range(times):
        value = (value,)
    return value


NEW_HOUSE = House(1)
FULL_HOUSE = read_house("hall 2\nrow a 1 2 -1 -2\nrow b 2\nrow c\npromise home a\npromise order a c")

# None of these is a room, a row, a script or a show, of however many directions.
NOTHING = (
    None, True, False, 0, 5, -5, 10 ** 39, -10 ** 39, "", " ", "1", "row", "()", "a" * 2000, "\n",
    [], [1], [0], [0, 0], [0, 0, 0], [0, 0, 0, 0], ["row"], ["row", 1], ["again", 2, 1],
    [((0,), 1, 1)], [[[0], 1, 1]], {}, {"row": 1}, {1: 1}, {(): ()}, {(0,): 1},
    (None,), (True,), (False,), (True, True), (0, False), (0, 0, True), (0, 0, 0, True), ("",), ("1",), ("Row",),
    ((),), ([],), ({},), (([],),), ((None,),), ([1],), ((1,),), ((0, 0),), ("row", None), ("row", True), ("row", ()),
    ("row", []), ("row", [1]), ("row", ["row"]), ("row", {}), ("row", "row"), ("row", "1"), ("row", (1,)),
    (1, "row"), ("row", ("row", ("row", ("row", False)))),
    deep(1, 12), deep((), 11), deep("row", 12), deep([deep({1: (True, [None])}, 4)], 4),
    tuple([None] * 2999), ("row",) + tuple([1] * 2000) + (None,), tuple([1] * 2000) + (True,),
    (0, 0, 0, 0, 0), (5,) * 5, (1, -1, 0, "1"), (1, -1, None),
    NEW_HOUSE, FULL_HOUSE, (NEW_HOUSE,), (FULL_HOUSE, FULL_HOUSE), [FULL_HOUSE], {1: FULL_HOUSE}, {"house": NEW_HOUSE},
    ("row", FULL_HOUSE), (1, NEW_HOUSE), (NEW_HOUSE, 1, 1), ((NEW_HOUSE,), 1, 1), ((0,), NEW_HOUSE, FULL_HOUSE),
)

def listed(thing):
    """Values that are written like a tuple, but have a list instead of one of the tuples in them."""
    if isinstance(thing, tuple):
        yield list(thing)
        for k, part in enumerate(thing):
            for other in listed(part):
                yield thing[:k] + (other,) + thing[k + 1:]


def near_misses(chance, thing, many):
    """Values that come from a tuple by changing, leaving out, repeating or exchanging some part of it."""
    made = list(listed(thing))[:40] + [thing + (None,), thing + thing[-1:], (thing,), thing[:-1], thing[1:], thing[::-1]]
    return made + [changed(chance, thing) for _ in range(many)]


def changed(chance, thing):
    """A value with one part otherwise, somewhere in it."""
    if isinstance(thing, tuple) and thing and chance.random() < 0.85:
        k = chance.randrange(len(thing))
        way = chance.randrange(8)
        if way == 0:
            return thing[:k] + thing[k + 1:]
        if way == 1:
            return thing[:k + 1] + thing[k:]
        if way == 2:
            j = chance.randrange(len(thing))
            parts = list(thing)
            parts[j], parts[k] = parts[k], parts[j]
            return tuple(parts)
        return thing[:k] + (changed(chance, thing[k]),) + thing[k + 1:]
    if isinstance(thing, int) and not isinstance(thing, bool) and chance.random() < 0.9:
        others = [thing + 1, thing - 1, -thing, thing + 2, 2 * thing, 0, 1]
        return chance.choice(others + [thing == 1, thing != 0, str(thing), None, (thing,), 10 ** 39])
    return chance.choice(NOTHING[:40] + (NEW_HOUSE, FULL_HOUSE, 1, -1, 2, (), (0,), (0, 0), (1,), ((0, 0), 1), [thing], (thing,)))


# Values as parameters of errors: pairs of them are equal in Python, though they are of unlike kinds.
ANY = NOTHING + (1, -1, (), (1,), (0,), (1, 0), "thing", ["thing"], 3, (3, "x"), (((0,), 1, 1),), ("row", 1))


class Case(unittest.TestCase):
    """A test case whose comparisons tell True from 1 and lists from tuples."""

    def same(self, one, other):
        self.assertEqual(repr(one), repr(other))
        self.assertEqual(one, other)

    def ways(self, function, given):
        """All ways to call: the first arguments by position, the others by name, also in reverse."""
        # Methods of houses have the names of some functions, with other parameters.
        table = HOUSE if isinstance(getattr(function, "__self__", None), House) else PARAMETERS
        names = table[function.__name__]
        self.assertEqual(len(names), len(given))
        for k in range(len(given) + 1):
            named = list(zip(names, given))[k:]
            yield given[:k], dict(named)
            yield given[:k], dict(reversed(named))

    def told(self, function, *given):
        """What a call tells, the same in all ways; it leaves its arguments as they are."""
        before = repr(given)
        result = function(*given)
        for placed, named in self.ways(function, given):
            self.same(function(*placed, **named), result)
        self.assertEqual(repr(given), before)
        return result

    def tells(self, expected, function, *given):
        self.same(self.told(function, *given), expected)

    def refuses(self, expected, function, *given):
        """A call raises an error that is equal to the expected one."""
        before = repr(given)
        for placed, named in self.ways(function, given):
            with self.assertRaises(errors.StileError) as caught:
                function(*placed, **named)
            self.assertIs(type(caught.exception), type(expected))
            self.same(vars(caught.exception), vars(expected))
            for name, value in vars(expected).items():
                if any(value is argument for argument in given):
                    self.assertIs(getattr(caught.exception, name), value)
        self.assertEqual(repr(given), before)
