"""Several walkers: what they leave behind together, and who can have left a show."""

from math import gcd

from stilewalks.errors import NotClosed
from stilewalks.lattices import shares_of, size_of, steps_of, sum_of, weights_of
from stilewalks.rooms import beginning, is_whole
from stilewalks.scripts import check_row, row_end
from stilewalks.shows import check_show, is_passage, plus_times, show_of


def together(r, rows):
    """The show behind several walkers."""
    show = ()
    for row in rows:
        show = plus_times(show, 1, show_of(r, row))
    return show


def check_closed_rows(r, rows):
    """Raises BadRow or NotClosed for the first value that is no row, or else the first row that is not closed."""
    for row in rows:
        check_row(r, row)
    for row in rows:
        if row_end(r, row) != beginning(r):
            raise NotClosed(row)


def numbers_at(show, passages):
    """The numbers that a show tells for some passages."""
    numbers = {(room, i): number for room, i, number in show}
    return [numbers.get(passage, 0) for passage in passages]


def passages_in(shows):
    """All passages of some shows, ascending."""
    return sorted({(room, i) for show in shows for room, i, _ in show})


def judge_shares(r, rows, show):
    """A certificate that numbers make a show, or that none do."""
    check_closed_rows(r, rows)
    check_show(r, show)
    shows = [show_of(r, row) for row in rows]
    passages = passages_in(shows + [show])
    wanted = numbers_at(show, passages)
    steps, made, columns = steps_of([numbers_at(one, passages) for one in shows])
    size = size_of(steps, columns)
    # Times this size the shares of the steps, which may be no integers, are such.
    shares = shares_of(steps, columns, [size * number for number in wanted])
    for column, number in enumerate(wanted):
        if sum_of(shares, steps, column) != size * number:
            weights = weights_of(steps, columns, [-size * step[column] for step in steps])
            return weights_told(passages, columns + [column], weights + [size], 0)
    for k, share in enumerate(shares):
        if share % size != 0:
            weights = weights_of(steps, columns, [size if j == k else 0 for j in range(len(steps))])
            return weights_told(passages, columns, weights, size)
    wholes = [number // size for number in shares]
    return "numbers", tuple([sum_of(wholes, made, at) for at in range(len(rows))])


def weights_told(passages, columns, weights, m):
    """A certificate with the weights of some columns, each divided by what divides all of them."""
    shared = m
    for weight in weights:
        shared = gcd(shared, weight)
    m //= shared
    pairs = []
    for column, weight in zip(columns, weights):
        number = weight // shared if m == 0 else weight // shared % m
        if number != 0:
            pairs.append((passages[column], number))
    return "weights", tuple(sorted(pairs)), m


def shares_hold(r, rows, show, thing):
    """Whether any value is a certificate that judge_shares may tell."""
    check_closed_rows(r, rows)
    check_show(r, show)
    if not isinstance(thing, tuple) or len(thing) < 2:
        return False
    if thing[0] == "numbers":
        return len(thing) == 2 and are_numbers(thing[1], len(rows)) and do_make(r, rows, show, thing[1])
    if thing[0] == "weights" and len(thing) == 3:
        weights, m = thing[1:]
        if not are_weights(r, weights) or not is_whole(m) or m < 0 or m == 1:
            return False
        given = [weighed(show_of(r, row), weights) for row in rows]
        return all([is_divisible(number, m) for number in given]) and not is_divisible(weighed(show, weights), m)
    return False


def are_numbers(thing, many):
    """Whether any value is a tuple of so many integers."""
    return isinstance(thing, tuple) and len(thing) == many and all([is_whole(item) for item in thing])


def do_make(r, rows, show, numbers):
    """Whether numbers, one for each closed row, make a show."""
    made = ()
    for row, number in zip(rows, numbers):
        made = plus_times(made, number, show_of(r, row))
    return made == show


def are_weights(r, thing):
    """Whether any value is weights."""
    if not isinstance(thing, tuple) or not all([is_weight(r, item) for item in thing]):
        return False
    passages = [passage for passage, _ in thing]
    return all([one < other for one, other in zip(passages, passages[1:])])


def is_weight(r, thing):
    """Whether any value is a pair as weights have them."""
    if not isinstance(thing, tuple) or len(thing) != 2:
        return False
    passage, number = thing
    if not isinstance(passage, tuple) or len(passage) != 2 or not is_passage(r, passage[0], passage[1]):
        return False
    return is_whole(number) and number != 0


def weighed(show, weights):
    """What weights give a show."""
    numbers = {passage: number for passage, number in weights}
    return sum([number * numbers.get((room, i), 0) for room, i, number in show])


def is_divisible(number, m):
    """Whether a number is divisible by m; by 0 only 0 is."""
    return number == 0 if m == 0 else number % m == 0


def can_be_shared(r, rows, show):
    """Whether numbers make a show."""
    return judge_shares(r, rows, show)[0] == "numbers"


def idle_numbers(r, rows):
    """Numbers other than zeros that make the show without triples; None if there are none."""
    check_closed_rows(r, rows)
    shows = [show_of(r, row) for row in rows]
    passages = passages_in(shows)
    _, made, columns = steps_of([numbers_at(show, passages) for show in shows])
    if len(columns) == len(rows):
        return None
    return tuple(made[len(columns)])
