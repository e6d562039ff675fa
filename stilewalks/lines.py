"""Rooms that are one along a room d, and shows that are rolled along it.

Wherever d may also be the beginning, nothing is rolled: each room is its own first room.
"""

from stilewalks.rooms import beginning, is_ahead, room_less, room_plus, room_times
from stilewalks.shows import add_number, is_passage, moved_by, plus_times, show_with


def along(room, d):
    """The pair (first room along d, k) with which a room is the first room plus k times d, d not the beginning."""
    at = 0
    while d[at] == 0:
        at += 1
    times = room[at] // abs(d[at])
    if not is_ahead(d):
        times = -times
    return room_less(room, room_times(times, d)), times


def first_along(room, d):
    """The first room of a room along d; the room itself if d is the beginning."""
    if d == beginning(len(d)):
        return room
    first, _ = along(room, d)
    return first


def rolled_by(show, d):
    """What is known to be a show, rolled along d; the show itself if d is the beginning."""
    numbers = {}
    for room, i, number in show:
        add_number(numbers, (first_along(room, d), i), number)
    return show_with(numbers)


def moved_along(show, room, d):
    """What is known to be a show, moved by a room and rolled along d."""
    return rolled_by(moved_by(show, room), d)


def unlike_passage(one, other):
    """The least passage at which two shows tell unlike numbers; None if they are equal."""
    between = plus_times(one, -1, other)
    if between == ():
        return None
    return between[0][:2]


def is_barring(r, thing, between):
    """Whether any value is a passage, as a pair, at which the difference of two shows is not 0."""
    if not isinstance(thing, tuple) or len(thing) != 2 or not is_passage(r, thing[0], thing[1]):
        return False
    return thing in [(room, i) for room, i, _ in between]


def divided_along(show, d):
    """The show that becomes the told one if itself moved by d is taken away; there has to be one."""
    lines = {}
    for room, i, number in show:
        first, k = along(room, d)
        lines.setdefault((first, i), []).append((k, number))
    numbers = {}
    for (first, i), marks in lines.items():
        level = 0
        places = sorted(marks)
        for (k, number), (later, _) in zip(places, places[1:]):
            level += number
            if level != 0:
                for n in range(k, later):
                    numbers[(room_plus(first, room_times(n, d)), i)] = level
    return show_with(numbers)
