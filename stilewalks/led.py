"""Rows that are led to one another by work around them."""

from stilewalks.errors import BadRoom
from stilewalks.lines import divided_along, first_along, is_barring, moved_along, rolled_by, unlike_passage
from stilewalks.rooms import beginning, room_less, room_times
from stilewalks.rounds import row_with, straight_row
from stilewalks.scripts import backwards, check_row, is_room, is_row, row_end
from stilewalks.shows import check_show, moved_by, plus_times, rows_alike, show_of


def rolled_along(r, show, d):
    """A show rolled along a room."""
    check_show(r, show)
    check_way(r, d)
    return rolled_by(show, d)


def first_room(r, room, d):
    """The first room of a room along another one."""
    if not is_room(r, room):
        raise BadRoom(room)
    check_way(r, d)
    return first_along(room, d)


def check_way(r, d):
    """Raises BadRoom for any value that is no room, or is the beginning."""
    if not is_room(r, d) or d == beginning(r):
        raise BadRoom(d)


def is_led(r, one, other):
    """Whether some row leads one row to another one."""
    return leading_rooms(r, one, other) != ()


def leading_rooms(r, one, other):
    """The rooms [6.3] by which rows lead one row to another one; None if all rows do."""
    check_row(r, one)
    check_row(r, other)
    end = row_end(r, one)
    if end != row_end(r, other):
        return ()
    first, second = rolled_by(show_of(r, one), end), rolled_by(show_of(r, other), end)
    if first == () and second == ():
        return None
    return tuple([room for room in rooms_to_test(first, second, end) if moved_along(first, room, end) == second])


def rooms_to_test(first, second, d):
    """The only rooms, ascending, by which one rolled show can be moved to another one."""
    if first == ():
        return []
    start, i, number = first[0]
    places = [place for place, way, many in second if way == i and many == number]
    return sorted([first_along(room_less(place, start), d) for place in places])


def judge_led(r, one, other):
    """A certificate that some row leads one row to another one, or that none does."""
    rooms = leading_rooms(r, one, other)
    if rooms is None:
        return "row", ()
    end = row_end(r, one)
    if rooms != ():
        return "row", leader(r, one, other, rooms[0])
    if end != row_end(r, other):
        return "ends", end, row_end(r, other)
    first, second = rolled_by(show_of(r, one), end), rolled_by(show_of(r, other), end)
    tests = [(room, unlike_passage(moved_along(first, room, end), second))
             for room in rooms_to_test(first, second, end)]
    return "stiles", tuple(tests)


def leader(r, one, other, room):
    """A row that leads one row to another one, from a leading room."""
    end = row_end(r, one)
    if end == beginning(r):
        return straight_row(room)
    # Each room that is one with the leading room does; one nearby makes the row short.
    near = nearest_along(room, end)
    return row_with(r, divided_along(plus_times(show_of(r, other), -1, moved_by(show_of(r, one), near)), end))


def nearest_along(room, d):
    """A room near the beginning that is one along d with a room."""
    size = sum([item * item for item in d])
    shared = sum([a * b for a, b in zip(room, d)])
    return room_less(room, room_times((2 * shared + size) // (2 * size), d))


def led_holds(r, one, other, thing):
    """Whether any value is a certificate that judge_led may tell."""
    check_row(r, one)
    check_row(r, other)
    if not isinstance(thing, tuple) or len(thing) < 2:
        return False
    if thing[0] == "row":
        return len(thing) == 2 and is_row(r, thing[1]) and does_lead(r, thing[1], one, other)
    end, other_end = row_end(r, one), row_end(r, other)
    if thing[0] == "ends" and end != other_end and all([is_room(r, room) for room in thing[1:]]):
        return thing[1:] == (end, other_end)
    if thing[0] == "stiles" and end == other_end:
        return len(thing) == 2 and tests_hold(r, one, other, thing[1])
    return False


def does_lead(r, row, one, other):
    """Whether a row leads one row to another one."""
    return rows_alike(r, row + one + backwards(row), other)


def tests_hold(r, one, other, tests):
    """Whether any value is the tests [6.4] for two rows with the same end."""
    end = row_end(r, one)
    first, second = rolled_by(show_of(r, one), end), rolled_by(show_of(r, other), end)
    if not isinstance(tests, tuple) or first == () and second == ():
        return False
    rooms = rooms_to_test(first, second, end)
    if len(tests) != len(rooms):
        return False
    return all([room_is_barred(r, test, room, plus_times(moved_along(first, room, end), -1, second))
                for test, room in zip(tests, rooms)])


def room_is_barred(r, test, room, between):
    """Whether any value is the pair of a room and a passage at which the difference of two shows is not 0."""
    if not isinstance(test, tuple) or len(test) != 2 or not is_room(r, test[0]) or test[0] != room:
        return False
    return is_barring(r, test[1], between)
