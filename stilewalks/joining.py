"""The fewest passages that join lots of rooms (S. Dreyfus and R. Wagner: for each lot of lots, from each room).

A group is an integer: the sum of 1 << k for the lots at k that are in it. The trees of a group are a dict from rooms
to pairs (cost, from): as few joining passages as join the lots of the group and the room to one another, and from
where they come: a neighbour's step, a smaller group, or None in a lot that is the whole group.
"""

from heapq import heappop, heappush

from stilewalks.rooms import neighbour


def joining_passages(r, show, lots):
    """As few passages as, with those of a show, join all lots to one another."""
    free = {(room, i): True for room, i, _ in show}
    low, high = corners(lots)
    trees = {}
    whole = (1 << len(lots)) - 1
    for group in range(1, whole + 1):
        trees[group] = starts_of(trees, group, lots)
        spread(r, trees[group], free, low, high)
    return passages_of(trees, whole, lots[0][0], free)


def corners(lots):
    """The least and the greatest items of all rooms of lots, for each direction."""
    # Passages outside could all be moved to the edge of what is between, so they are never needed.
    rooms = [room for lot in lots for room in lot]
    columns = [[room[at] for room in rooms] for at in range(len(rooms[0]))]
    return [min(items) for items in columns], [max(items) for items in columns]


def starts_of(trees, group, lots):
    """The trees of a group that are one of its lots, or two trees of smaller groups from one room."""
    found = {}
    for k, lot in enumerate(lots):
        if group == 1 << k:
            return {room: (0, None) for room in lot}
    for part in range(1, group):
        rest = group - part
        # Each pair of groups is looked at once.
        if part & group == part and part < rest:
            for room in trees[part]:
                cost = trees[part][room][0] + trees[rest][room][0]
                if room not in found or cost < found[room][0]:
                    found[room] = (cost, ("groups", part))
    return found


def spread(r, tree, free, low, high):
    """Carries the trees of one group on to all rooms between the corners, the cheapest first."""
    queue = sorted([(tree[room][0], room) for room in tree])
    while queue:
        cost, room = heappop(queue)
        if cost > tree[room][0]:
            continue
        for i in range(1, r + 1):
            for step in (i, -i):
                other = neighbour(room, step)
                price = cost if passage_of(room, step) in free else cost + 1
                if is_inside(low, other, high) and (other not in tree or price < tree[other][0]):
                    tree[other] = (price, ("step", -step))
                    heappush(queue, (price, other))


def is_inside(low, room, high):
    """Whether a room is between the corners."""
    return all([a <= b <= c for a, b, c in zip(low, room, high)])


def passage_of(room, step):
    """The passage through which a step from a room leads."""
    return (room, step) if step > 0 else (neighbour(room, step), -step)


def passages_of(trees, whole, start, free):
    """The passages of a tree, those of the show left out, ascending."""
    found = {}
    waiting = [(whole, start)]
    while waiting:
        group, room = waiting.pop()
        way = trees[group][room][1]
        if way is None:
            continue
        word, number = way
        if word == "groups":
            waiting.append((number, room))
            waiting.append((group - number, room))
        else:
            if passage_of(room, number) not in free:
                found[passage_of(room, number)] = True
            waiting.append((group, neighbour(room, number)))
    return sorted(found)
