"""How often blocks that are done again come to a room: counted by solving for the numbers of repeats."""

from stilewalks.rooms import room_less, room_times


def number_in_side(r, side, room):
    """The number at a room in a side that is given in groups."""
    total = 0
    for repeats, numbers in side.items():
        pivots, free = eliminated(r, repeats)
        for start in numbers:
            total += numbers[start] * ways_by(r, repeats, room_less(room, start), pivots, free)
    return total


def ways(r, repeats, room):
    """In how many ways a room is a sum of moves, each of them taken less than n times."""
    pivots, free = eliminated(r, repeats)
    return ways_by(r, repeats, room, pivots, free)


def ways_by(r, repeats, room, pivots, free):
    """As ways, with the equations of the repeats eliminated."""
    counts = counts_for(repeats, room, pivots)
    if counts is None:
        return 0
    if len(free) > 1:
        return ways_one_by_one(r, repeats, room)
    if free:
        return ways_on_line(repeats, counts, free[0])
    return 1 if all([0 <= count < n for count, (_, n) in zip(counts, repeats)]) else 0


def eliminated(r, repeats):
    """For each direction a pair (weight, counts), and the counts that lead nowhere, as a list of vectors.

    The counts of a pair, one for each repeat, lead by weight in its direction and by 0 in all earlier
    ones. What solves the equations of all directions is one solution plus integers times the vectors.
    """
    many = len(repeats)
    vectors = [[1 if k == at else 0 for k in range(many)] for at in range(many)]
    pivots = []
    for j in range(r):
        items = [move[j] for move, _ in repeats]
        weight, counts, vectors = parted(items, vectors)
        pivots.append((weight, counts))
    return pivots, vectors


def parted(items, vectors):
    """Exchanges vectors for others with the same sums, of which at most one has a weight other than 0.

    The weight of a vector is the sum of its numbers times the items. Tells the weight, the vector that
    has it, and the others; (0, [], vectors) if all weights are 0.
    """
    weighted = [(sum([a * b for a, b in zip(items, vector)]), vector) for vector in vectors]
    idle = [vector for weight, vector in weighted if weight == 0]
    live = [(weight, vector) for weight, vector in weighted if weight != 0]
    while len(live) > 1:
        live = sorted(live, key=lambda pair: abs(pair[0]))
        least, by = live[0]
        left = [live[0]]
        for weight, vector in live[1:]:
            rest = [a - weight // least * b for a, b in zip(vector, by)]
            if weight % least == 0:
                idle.append(rest)
            else:
                left.append((weight % least, rest))
        live = left
    if live:
        return live[0][0], live[0][1], idle
    return 0, [], idle


def counts_for(repeats, room, pivots):
    """Integers, one for each repeat, with which the moves add up to a room; None if there are none."""
    counts = [0 for _ in repeats]
    for j, (weight, by) in enumerate(pivots):
        rest = room[j] - sum([count * move[j] for count, (move, _) in zip(counts, repeats)])
        if rest == 0:
            continue
        if weight == 0 or rest % weight != 0:
            return None
        counts = [count + rest // weight * item for count, item in zip(counts, by)]
    return counts


def ways_on_line(repeats, counts, vector):
    """How many of the counts plus an integer times a vector are all from 0 to n - 1."""
    lows, highs = [], []
    for count, item, (_, n) in zip(counts, vector, repeats):
        if item > 0:
            lows.append(-(count // item))
            highs.append((n - 1 - count) // item)
        elif item < 0:
            lows.append(-((n - 1 - count) // -item))
            highs.append(count // -item)
        elif not 0 <= count < n:
            return 0
    return max(0, min(highs) - max(lows) + 1)


def ways_one_by_one(r, repeats, room):
    """As ways, by trying all counts of one repeat: for more repeats on one line than the document asks for."""
    ranges = [possible_counts(r, repeats, room, at) for at in range(len(repeats))]
    at = min(list(range(len(repeats))), key=lambda k: ranges[k][1] - ranges[k][0])
    low, high = ranges[at]
    left = repeats[:at] + repeats[at + 1:]
    total = 0
    for count in range(low, high + 1):
        total += ways(r, left, room_less(room, room_times(count, repeats[at][0])))
    return total


def possible_counts(r, repeats, room, at):
    """The least and the greatest count of one repeat with which the others can still come to a room."""
    move, n = repeats[at]
    low, high = 0, n - 1
    for j in range(r):
        if move[j] == 0:
            continue
        reach = [(many - 1) * by[j] for k, (by, many) in enumerate(repeats) if k != at]
        nearest = room[j] - sum([item for item in reach if item > 0])
        farthest = room[j] - sum([item for item in reach if item < 0])
        if move[j] < 0:
            nearest, farthest = -farthest, -nearest
        low = max(low, -(-nearest // abs(move[j])))
        high = min(high, farthest // abs(move[j]))
    return low, high
