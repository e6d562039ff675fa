"""The show of a script in groups, which stay short however often its blocks are done again.

Groups are a dict from repeats to dicts from passages to numbers. Repeats are an ascending tuple, with
repeats, of pairs (move, n), the move a room that is ahead and n from 2 on. A group stands for its numbers,
times the sum 1 + t^move + .. + t^((n - 1) move) for all its repeats. A *side* has rooms instead of passages.
"""

from stilewalks.rooms import beginning, is_ahead, is_whole, neighbour, room_less, room_plus, room_times
from stilewalks.scripts import script_end
from stilewalks.shows import add_number
from stilewalks.terms import less_all_moved, without_zeros


def show_groups(r, script):
    """The groups of the show of what is known to be a script."""
    start = beginning(r)
    if is_whole(script):
        if script > 0:
            return {(): {(start, script): 1}}
        return {(): {(neighbour(start, script), -script): -1}}
    if script[0] == "again":
        return groups_again(show_groups(r, script[2]), script_end(r, script[2]), script[1])
    groups = {}
    if script[0] == "back":
        add_groups(groups, show_groups(r, script[1]), room_less(start, script_end(r, script[1])), -1)
    elif script[0] == "around":
        ahead = show_groups(r, script[1])
        add_groups(groups, ahead, start, 1)
        add_groups(groups, show_groups(r, script[2]), script_end(r, script[1]), 1)
        # The first part is undone behind the second one, so it comes back to where the second one ends.
        add_groups(groups, ahead, script_end(r, script[2]), -1)
    else:
        for part in script[1:]:
            add_groups(groups, show_groups(r, part), start, 1)
            start = room_plus(start, script_end(r, part))
    return groups


def add_groups(groups, more, room, many):
    """Adds to groups other ones, moved by a room and multiplied by an integer."""
    for repeats, numbers in more.items():
        into = groups.setdefault(repeats, {})
        for place, i in numbers:
            add_number(into, (room_plus(place, room), i), many * numbers[(place, i)])


def groups_again(groups, end, n):
    """The groups of a block that is done n times, from those of the block and its end."""
    if n == 0:
        return {}
    if n == 1:
        return groups
    made = {}
    if end == beginning(len(end)):
        add_groups(made, groups, end, n)
        return made
    move, room = end, beginning(len(end))
    if not is_ahead(end):
        # The walk from the first block to the last one is told from its other side.
        move, room = room_less(room, end), room_times(n - 1, end)
    for repeats, numbers in groups.items():
        longer = tuple(sorted(repeats + ((move, n),)))
        add_groups(made, {longer: numbers}, room, 1)
    return made


def side_of(groups, i):
    """The side i of a show in groups, without what is 0."""
    side = {}
    for repeats, numbers in groups.items():
        here = {room: numbers[(room, way)] for room, way in numbers if way == i and numbers[(room, way)] != 0}
        if here:
            side[repeats] = here
    return side


def common_moves(side):
    """The least moves of a quotient to which all groups of a side can be brought."""
    most = {}
    for repeats in side:
        many = {}
        for move, _ in repeats:
            add_number(many, move, 1)
        for move in many:
            most[move] = max(most.get(move, 0), many[move])
    moves = []
    for move in sorted(most):
        moves.extend([move] * most[move])
    return moves


def top_over(side, moves):
    """The top of the quotient of a side with moves among which are its common ones."""
    total = {}
    for repeats, numbers in side.items():
        left = list(moves)
        for move, n in repeats:
            left.remove(move)
            left.append(room_times(n, move))
        product = less_all_moved(numbers, left)
        for room in product:
            add_number(total, room, product[room])
    return without_zeros(total)
