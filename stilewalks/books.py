"""Books that put rows for steps, and books that take them back."""

from stilewalks.errors import BadBook
from stilewalks.lines import divided_along, rolled_by
from stilewalks.rooms import beginning, room_plus, room_times
from stilewalks.rounds import row_with
from stilewalks.scripts import backwards, check_row, is_row, row_end
from stilewalks.shows import add_number, plus_times, show_of, show_with
from stilewalks.terms import sum_with, table_determinant
from stilewalks.termsums import is_sum, is_unit


def is_book(r, thing):
    """Whether any value is a book."""
    return isinstance(thing, tuple) and len(thing) == r and all([is_row(r, row) for row in thing])


def check_book(r, book):
    """Raises BadBook for any value that is no book."""
    if not is_book(r, book):
        raise BadBook(book)


def put(r, book, row):
    """What a book puts for a row, step by step."""
    check_book(r, book)
    check_row(r, row)
    return put_steps(book, row)


def put_steps(book, row):
    """What is known to be a book puts for what is known to be a row."""
    steps = []
    for step in row:
        steps.extend(list(book[step - 1] if step > 0 else backwards(book[-step - 1])))
    return tuple(steps)


def behind(r, one, other):
    """The book one behind other."""
    check_book(r, one)
    check_book(r, other)
    return put_rows(one, other)


def put_rows(book, rows):
    """What a book puts for several rows."""
    return tuple([put_steps(book, row) for row in rows])


def single_steps(r):
    """The book of single steps."""
    return tuple([(i,) for i in range(1, r + 1)])


def book_ends(r, book):
    """The ends of the rows of a book."""
    check_book(r, book)
    return tuple([row_end(r, row) for row in book])


def book_table(r, book):
    """The table of a book."""
    check_book(r, book)
    return tuple([tuple([sum_with(side) for side in sides]) for sides in sides_of_book(r, book)])


def sides_of_book(r, book):
    """The table of a book, its term sums as dicts."""
    table = []
    for row in book:
        sides = [{} for _ in range(r)]
        for room, i, number in show_of(r, row):
            sides[i - 1][room] = number
        table.append(sides)
    return table


def book_determinant(r, book):
    """The determinant of the table of a book."""
    check_book(r, book)
    return sum_with(table_determinant(r, sides_of_book(r, book)))


def books_alike(r, one, other):
    """Whether two books are alike."""
    check_book(r, one)
    check_book(r, other)
    return same_rows(r, one, other)


def same_rows(r, one, other):
    """Whether the rows of what is known to be two books are alike, one by one."""
    return all([show_of(r, first) == show_of(r, second) for first, second in zip(one, other)])


def is_taken_back(r, book):
    """Whether a book can be taken back."""
    return is_unit(r, book_determinant(r, book))


def judge_back(r, book):
    """A certificate that a book can be taken back, or that it cannot."""
    product = book_determinant(r, book)
    if not is_unit(r, product):
        return "determinant", product
    return "back", back_of(r, book, product[0])


def back_of(r, book, unit):
    """The book that takes a book back, whose determinant is the sum of one pair."""
    room, sign = unit
    table, ends = sides_of_book(r, book), book_ends(r, book)
    back_ends = undone_ends(r, ends)
    rows = []
    for i in range(r):
        numbers = {}
        for j in range(r):
            # The table undone has, turned over, the determinants of what is left without one row and one column.
            part = table_determinant(r, without_row_and_column(table, j, i))
            many = sign if (i + j) % 2 == 0 else -sign
            for place in part:
                led = room_led(r, room_plus(place, room_times(-1, room)), back_ends)
                add_number(numbers, (led, j + 1), many * part[place])
        rows.append(row_with(r, show_with(numbers)))
    return tuple(rows)


def without_row_and_column(table, i, j):
    """A table without its row at i and its column at j."""
    return [row[:j] + row[j + 1:] for row in table[:i] + table[i + 1:]]


def room_led(r, room, ends):
    """The room to which a room is led by ends."""
    led = beginning(r)
    for item, end in zip(room, ends):
        led = room_plus(led, room_times(item, end))
    return led


def undone_ends(r, ends):
    """The ends that lead each room back; the determinant of the items has to be 1 or -1."""
    # The items stand in term sums of no directions, whose only room is ().
    table = [[{(): item} for item in end] for end in ends]
    sign = table_determinant(0, table)[()]
    back = []
    for i in range(r):
        items = []
        for j in range(r):
            part = table_determinant(0, without_row_and_column(table, j, i)).get((), 0)
            items.append(part * sign if (i + j) % 2 == 0 else -part * sign)
        back.append(tuple(items))
    return tuple(back)


def back_holds(r, book, thing):
    """Whether any value is a certificate that judge_back may tell."""
    check_book(r, book)
    if not isinstance(thing, tuple) or len(thing) != 2:
        return False
    if thing[0] == "back":
        return is_book(r, thing[1]) and does_take_back(r, book, thing[1])
    if thing[0] == "determinant" and is_sum(r, thing[1]):
        return thing[1] == book_determinant(r, book) and not is_unit(r, thing[1])
    return False


def does_take_back(r, book, back):
    """Whether a book is taken back by another one."""
    return all([same_rows(r, put_rows(one, other), single_steps(r)) for one, other in ((book, back), (back, book))])


def leader_of(r, book):
    """A row that leads the book of single steps to a book; None if there is none."""
    if book_ends(r, book) != tuple([row_end(r, row) for row in single_steps(r)]):
        return None
    room = leading_room(r, book)
    if room is None:
        return None
    shows = [show_to_lead(r, i + 1, row, room) for i, row in enumerate(book)]
    # One row has to do for all steps, and its show is told by each of them alone.
    if not all([show == shows[0] for show in shows]):
        return None
    return row_with(r, shows[0])


def leading_room(r, book):
    """The only room by which a row can lead the single steps to a book with their ends; None if there is none."""
    firsts = []
    for i, row in enumerate(book):
        rolled = rolled_by(show_of(r, row), row_end(r, row))
        if len(rolled) != 1 or rolled[0][1:] != (i + 1, 1):
            return None
        firsts.append(rolled[0][0])
    # Along the step i a first room tells all items but the one at i - 1, which another step tells.
    room = tuple([firsts[at - 1][at] for at in range(r)])
    for i, first in enumerate(firsts):
        if first != room[:i] + (0,) + room[i + 1:]:
            return None
    return room


def show_to_lead(r, step, row, room):
    """The show with which a row with this end leads a single step to a row, if one does."""
    end = row_end(r, row)
    return divided_along(plus_times(show_of(r, row), -1, ((room, step, 1),)), end)
