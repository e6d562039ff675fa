"""Rows that are built for balanced shows."""

from stilewalks.rooms import beginning, neighbour
from stilewalks.scripts import backwards


def straight_row(room):
    """A row that leads from the beginning to a room without a turn back."""
    row = []
    for at, item in enumerate(room):
        step = at + 1 if item > 0 else -at - 1
        row.extend([step] * abs(item))
    return tuple(row)


def row_around(room, row):
    """A row walked from a room: to the room, the row, and back the same way."""
    ahead = straight_row(room)
    return ahead + row + backwards(ahead)


def show_pieces(show):
    """The pieces of a show, ascending, each with its rooms ascending."""
    beside = {}
    for room, i, _ in show:
        other = neighbour(room, i)
        beside.setdefault(room, []).append(other)
        beside.setdefault(other, []).append(room)
    seen = set()
    pieces = []
    for room in sorted(beside):
        if room in seen:
            continue
        seen.add(room)
        piece = [room]
        at = 0
        while at < len(piece):
            here = piece[at]
            for other in beside[here]:
                if other not in seen:
                    seen.add(other)
                    piece.append(other)
            at += 1
        pieces.append(tuple(sorted(piece)))
    return tuple(pieces)


def row_with(r, show):
    """A row with what is known to be a balanced show."""
    start = beginning(r)
    steps = steps_of_show(show)
    row = []
    for piece in show_pieces(show):
        if start not in piece:
            room = min(list(piece), key=distance)
            row.extend(list(row_around(room, all_steps(room, steps))))
    # The piece with the beginning comes last, as one need not come back from it.
    row.extend(list(all_steps(start, steps)))
    return tuple(row)


def distance(room):
    """The least number of steps from the beginning to a room."""
    return sum([abs(item) for item in room])


def steps_of_show(show):
    """For each room the list of all steps that have to be done from it."""
    steps = {}
    for room, i, number in show:
        if number > 0:
            steps.setdefault(room, []).extend([i] * number)
        else:
            steps.setdefault(neighbour(room, i), []).extend([-i] * -number)
    return steps


def all_steps(start, steps):
    """A row from a room that does all steps of its piece, which are taken out of the lists."""
    walked = [(start, 0)]
    row = []
    while walked:
        room, came_by = walked[-1]
        if steps.get(room, []):
            step = steps[room].pop()
            walked.append((neighbour(room, step), step))
        else:
            # From here no step is left: what is still to be done is done on rounds from rooms on the way.
            walked.pop()
            row.append(came_by)
    row.reverse()
    return tuple(row[1:])
