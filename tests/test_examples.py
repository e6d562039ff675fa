"""The examples of the document, as they stand there."""

import unittest

from stilewalks import errors
from tests.helping import Case

SCRIPTS = """
>>> from stilewalks.scripts import end_of, is_script, length_of, read_script, row_of, script_text
>>> script = ('around', 1, ('again', 3, 2))
>>> [row_of(2, script), end_of(2, script), length_of(2, ('again', 10 ** 30, script)), script_text(2, script), read_script(2, '(row 1 (back -2))'), is_script(1, script)]
[(1, 2, 2, 2, -1), (0, 3), 5000000000000000000000000000000, '(around 1 (again 3 2))', ('row', 1, ('back', -2)), False]
>>> from stilewalks.scripts import reduced_row, row_end, undone_row
>>> [row_end(2, (1, 1, -2)), undone_row(2, (1, 2, 2)), reduced_row(2, (1, 2, -2, -1, 2))]
[(2, -1), (-2, -2, -1), (2,)]
>>> from stilewalks.scripts import row_of
>>> row_of(1, ('again', 401, 1))
raises TooLong(401)
"""

SHOWS = """
>>> from stilewalks.shows import left_over, rows_alike, show_of
>>> one, other = (1, 2, -1, -2), (-1, 2, 1, -2)
>>> [show_of(2, (1, 1, 2)), show_of(2, (1, -1, 2)), show_of(2, one), left_over(2, show_of(2, (1, 1, 2))), rows_alike(2, one + other, other + one), rows_alike(2, (1, 2), (2, 1))]
[(((0, 0), 1, 1), ((1, 0), 1, 1), ((2, 0), 2, 1)), (((0, 0), 2, 1),), (((0, 0), 1, 1), ((0, 0), 2, -1), ((0, 1), 1, -1), ((1, 0), 2, 1)), (((0, 0), 1), ((2, 1), -1)), True, False]
>>> from stilewalks.shows import moved, number_in, plus, times
>>> [moved(1, (((0,), 1, 2),), (-3,)), plus(1, (((0,), 1, 2),), (((0,), 1, -2), ((1,), 1, 1))), times(1, -2, (((5,), 1, 3),)), number_in(1, (((0,), 1, 2),), (1,), 1)]
[(((-3,), 1, 2),), (((1,), 1, 1),), (((5,), 1, -6),), 0]
>>> from stilewalks.shows import number_in
>>> number_in(1, (), (0,), 2)
raises BadPassage(((0,), 2))
"""


class Examples(Case):
    """Each row behind >>> is run; a row behind it is what it tells or raises."""

    def play(self, text):
        names = {}
        rows = text.strip("\n").split("\n")
        compared = 0
        while rows:
            source = rows.pop(0)
            self.assertTrue(source.startswith(">>> "))
            if not rows or rows[0].startswith(">>> "):
                exec(source[4:], names)
                continue
            compared += 1
            expected = rows.pop(0)
            if expected.startswith("raises "):
                error = eval(expected[7:], dict(vars(errors)))
                with self.assertRaises(type(error)) as caught:
                    eval(source[4:], names)
                self.same(vars(caught.exception), vars(error))
            else:
                self.assertEqual(repr(eval(source[4:], names)), expected)
        return compared

    def test_scripts(self):
        self.assertEqual(self.play(SCRIPTS), 3)

    def test_shows(self):
        self.assertEqual(self.play(SHOWS), 3)


if __name__ == "__main__":
    unittest.main()
