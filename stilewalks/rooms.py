"""Integers, steps and rooms: what the other files count with."""


def is_whole(thing):
    """Whether any value is an integer; True and False are none."""
    return isinstance(thing, int) and not isinstance(thing, bool)


def is_step(r, thing):
    """Whether any value is a step of r directions."""
    return is_whole(thing) and 1 <= abs(thing) <= r


def is_direction(r, thing):
    """Whether any value is one of the integers from 1 to r."""
    return is_whole(thing) and 1 <= thing <= r


def beginning(r):
    """The room in which walkers begin."""
    return (0,) * r


def room_plus(one, other):
    """Two rooms added item by item."""
    return tuple([a + b for a, b in zip(one, other)])


def room_less(one, other):
    """A room with another one taken away, item by item."""
    return tuple([a - b for a, b in zip(one, other)])


def room_times(number, room):
    """A room with each item multiplied by an integer."""
    return tuple([number * item for item in room])


def neighbour(room, step):
    """The room to which a step leads from a room."""
    at = abs(step) - 1
    item = room[at] + 1 if step > 0 else room[at] - 1
    return room[:at] + (item,) + room[at + 1:]


def is_ahead(room):
    """Whether the first item of a room that is not 0 is above 0."""
    return room > (0,) * len(room)
