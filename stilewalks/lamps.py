"""Rows of lamps: what lamp rows do, their fewest letters, who is led, n-th parts."""

from math import gcd

from stilewalks.errors import BadLetters, BadNumber, BadShow
from stilewalks.rooms import is_whole
from stilewalks.scripts import backwards
from stilewalks.shows import add_number

MOST_STANDINGS = 1000


def is_lamp_row(thing):
    """Whether any value is a lamp row."""
    return isinstance(thing, tuple) and all([is_whole(letter) and letter in (1, -1, 2, -2) for letter in thing])


def check_standings(p):
    """Raises BadNumber for any value that is no number of standings."""
    if not is_whole(p) or not 2 <= p <= MOST_STANDINGS:
        raise BadNumber(p)


def check_letters(row):
    """Raises BadLetters for any value that is no lamp row."""
    if not is_lamp_row(row):
        raise BadLetters(row)


def is_form(p, thing):
    """Whether any value is a form."""
    check_standings(p)
    if not isinstance(thing, tuple) or len(thing) != 2:
        return False
    return is_whole(thing[0]) and are_lamps(p, thing[1])


def are_lamps(p, thing):
    """Whether any value is the lamps of a form."""
    if not isinstance(thing, tuple) or not all([is_lamp(p, item) for item in thing]):
        return False
    rooms = [room for room, _ in thing]
    return all([one < other for one, other in zip(rooms, rooms[1:])])


def is_lamp(p, thing):
    """Whether any value is the pair of a room and a standing other than 0."""
    if not isinstance(thing, tuple) or len(thing) != 2:
        return False
    return is_whole(thing[0]) and is_whole(thing[1]) and 1 <= thing[1] < p


def form_of(p, row):
    """The form of a lamp row."""
    check_standings(p)
    check_letters(row)
    return row_form(p, row)


def row_form(p, row):
    """The form of what is known to be a lamp row."""
    room = 0
    standings = {}
    for letter in row:
        if abs(letter) == 1:
            room += letter
        else:
            add_number(standings, room, letter // 2)
    return room, lamps_with(p, standings)


def lamps_with(p, standings):
    """The lamps with the standings of a dict, by p."""
    return tuple([(room, standings[room] % p) for room in sorted(standings) if standings[room] % p != 0])


def moved_lamps(lamps, by):
    """Lamps with an integer added to their rooms."""
    return tuple([(room + by, standing) for room, standing in lamps])


def lamps_less(p, one, other):
    """Lamps, less other ones."""
    standings = {room: standing for room, standing in one}
    for room, standing in other:
        add_number(standings, room, -standing)
    return lamps_with(p, standings)


def check_form(p, form):
    """Raises BadShow for any value that is no form."""
    if not is_form(p, form):
        raise BadShow(form)


def turns_of(form):
    """The rooms, told one after the other, between which a shortest lamp row with a form goes straight."""
    end, lamps = form
    rooms = [0] + [room for room, _ in lamps]
    least, greatest = min(rooms), max(rooms)
    one, other = (0, least, max(greatest, end), end), (0, greatest, min(least, end), end)
    return one if ways_between(one) <= ways_between(other) else other


def ways_between(turns):
    """The number of steps that go straight from each of some rooms to the next one."""
    return sum([abs(b - a) for a, b in zip(turns, turns[1:])])


def fewest_letters(p, form):
    """The fewest letters of a lamp row with a form."""
    check_form(p, form)
    return ways_between(turns_of(form)) + sum([min(standing, p - standing) for _, standing in form[1]])


def shortest_lamp_row(p, form):
    """A lamp row with a form and the fewest letters."""
    check_form(p, form)
    return row_with_form(p, form)


def row_with_form(p, form):
    """A lamp row with what is known to be a form, and the fewest letters."""
    waiting = {room: standing for room, standing in form[1]}
    turns = turns_of(form)
    row = letters_at(p, waiting, 0)
    for start, goal in zip(turns, turns[1:]):
        step = 1 if goal > start else -1
        for room in range(start + step, goal + step, step):
            row.append(step)
            row.extend(letters_at(p, waiting, room))
    return tuple(row)


def letters_at(p, waiting, room):
    """The letters that set the lamp of a room, which is taken out of what is still to be set."""
    standing = waiting.pop(room, 0)
    if 2 * standing <= p:
        return [2] * standing
    return [-2] * (p - standing)


def fold_of(p, form):
    """The fold of a form whose end is not 0."""
    fold = [0] * abs(form[0])
    for room, standing in form[1]:
        fold[room % len(fold)] += standing
    return tuple([number % p for number in fold])


def turned_round(fold, by):
    """A fold with the item at each j moved on to j + by."""
    at = -by % len(fold)
    return fold[at:] + fold[:at]


def leading_room(p, form, other):
    """The end of some lamp row that leads one form to another one with the same end; None if none does."""
    end, lamps = form
    if end == 0:
        if lamps == () or other[1] == ():
            return 0 if lamps == other[1] else None
        by = other[1][0][0] - lamps[0][0]
        return by if moved_lamps(lamps, by) == other[1] else None
    fold, other_fold = fold_of(p, form), fold_of(p, other)
    size = len(fold)
    # The rooms nearest to 0 come first, as they make short rows.
    for by in sorted(list(range(-(size // 2), size - size // 2)), key=abs):
        if turned_round(fold, by) == other_fold:
            return by
    return None


def divided_lamps(p, lamps, end):
    """The lamps that become the told ones if themselves moved by an end are taken away; there have to be such."""
    lines = {}
    for room, standing in lamps:
        lines.setdefault(room % abs(end), []).append(((room - room % abs(end)) // end, standing))
    standings = {}
    for rest in lines:
        places = sorted(lines[rest])
        level = 0
        for (k, standing), (later, _) in zip(places, places[1:]):
            level += standing
            for n in range(k, later):
                standings[rest + n * end] = level
    return lamps_with(p, standings)


def check_two_rows(p, one, other):
    """Raises BadNumber or BadLetters for any values that are no number of standings and two lamp rows."""
    check_standings(p)
    check_letters(one)
    check_letters(other)


def judge_lamps_led(p, one, other):
    """A certificate that some lamp row leads one to another one, or that none does."""
    check_two_rows(p, one, other)
    form, other_form = row_form(p, one), row_form(p, other)
    end = form[0]
    if end != other_form[0]:
        return "ends", end, other_form[0]
    room = leading_room(p, form, other_form)
    if room is not None:
        # With the end 0 nothing is left between them, and the row only goes to the room.
        between = lamps_less(p, other_form[1], moved_lamps(form[1], room))
        return "row", row_with_form(p, (room, divided_lamps(p, between, end)))
    if end == 0:
        return "lamps", form[1], other_form[1]
    return "folds", fold_of(p, form), fold_of(p, other_form)


def are_lamps_led(p, one, other):
    """Whether some lamp row leads one to another one."""
    check_two_rows(p, one, other)
    form, other_form = row_form(p, one), row_form(p, other)
    return form[0] == other_form[0] and leading_room(p, form, other_form) is not None


def lamps_led_hold(p, one, other, thing):
    """Whether any value is a certificate that judge_lamps_led may tell."""
    check_two_rows(p, one, other)
    if not isinstance(thing, tuple) or len(thing) < 2:
        return False
    if thing[0] == "row":
        return len(thing) == 2 and is_lamp_row(thing[1]) and does_lead(p, thing[1], one, other)
    form, other_form = row_form(p, one), row_form(p, other)
    if thing[0] == "ends" and all([is_whole(item) for item in thing[1:]]):
        return form[0] != other_form[0] and thing[1:] == (form[0], other_form[0])
    if form[0] != other_form[0] or leading_room(p, form, other_form) is not None:
        return False
    if thing[0] == "lamps" and form[0] == 0 and all([are_lamps(p, item) for item in thing[1:]]):
        return thing[1:] == (form[1], other_form[1])
    if thing[0] == "folds" and form[0] != 0 and all([are_numbers(item) for item in thing[1:]]):
        return thing[1:] == (fold_of(p, form), fold_of(p, other_form))
    return False


def are_numbers(thing):
    """Whether any value is a tuple of integers."""
    return isinstance(thing, tuple) and all([is_whole(item) for item in thing])


def does_lead(p, row, one, other):
    """Whether a lamp row leads one to another one."""
    return row_form(p, row + one + backwards(row)) == row_form(p, other)


def lamp_part(p, row, n):
    """An n-th part of a lamp row; None if it has none."""
    check_standings(p)
    check_letters(row)
    if not is_whole(n) or n < 1:
        raise BadNumber(n)
    form = row_form(p, row)
    end, lamps = form
    if end == 0:
        if any([standing % gcd(n, p) != 0 for _, standing in lamps]):
            return None
        return row_with_form(p, (0, tuple([(room, standing_part(p, standing, n)) for room, standing in lamps])))
    if end % n != 0:
        return None
    by = end // n
    fold = fold_of(p, form)
    if turned_round(fold, by) != fold:
        return None
    # What is done n times has its lamps times 1 - t^end, divided by 1 - t^by.
    return row_with_form(p, (by, divided_lamps(p, lamps_less(p, lamps, moved_lamps(lamps, by)), end)))


def standing_part(p, standing, n):
    """The least standing that, n times, is the told one, by p; there has to be one."""
    part = 1
    while n * part % p != standing:
        part += 1
    return part
