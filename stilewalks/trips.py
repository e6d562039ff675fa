"""What follows from told round trips: closed rows by p figures, two directions."""

from stilewalks.closing import closed_members, least_members, reduced_member
from stilewalks.errors import BadHeights, BadNumber, BadSum, NotClosed
from stilewalks.heights import heights_of, is_heights
from stilewalks.polynomials import first_below, head_of, is_closed, is_polynomial, polynomial_with, reduced_by
from stilewalks.rooms import beginning, is_whole
from stilewalks.scripts import check_row, row_end
from stilewalks.shows import show_of
from stilewalks.terms import add_product, is_term_sum, numbers_in, sum_with

# Bases with greater items are beyond the limits of part 10, and to go on with them could take for ever.
MOST_ITEM = 60


def check_figures(p):
    """Raises BadNumber for any value that is not 2, 3 or 5."""
    if not is_whole(p) or p not in (2, 3, 5):
        raise BadNumber(p)


def polynomial_of(p, heights):
    """The polynomial of heights, by p."""
    check_figures(p)
    if not is_heights(heights):
        raise BadHeights(heights)
    return polynomial_with(polynomial_numbers(by_figures(p, numbers_in(heights))))


def by_figures(p, numbers):
    """A dict with its numbers by p, those with 0 left out."""
    return {key: numbers[key] % p for key in numbers if numbers[key] % p != 0}


def polynomial_numbers(heights):
    """The polynomial of heights by p, both as dicts."""
    polynomial = {}
    for i, j in heights:
        k = max(0, -i, -j)
        polynomial[(i + k, j + k, k)] = heights[(i, j)]
    return polynomial


def tie_of(p):
    """The tie, as a dict."""
    return {(0, 0, 0): p - 1, (1, 1, 1): 1}


def is_base(p, thing):
    """Whether any value is a base."""
    check_figures(p)
    if not isinstance(thing, tuple) or not all([is_polynomial(p, item) for item in thing]):
        return False
    return all([item != () and numbers_in(item)[head_of(numbers_in(item))] == 1 for item in thing])


def is_closed_base(p, thing):
    """Whether any value is a closed base."""
    if not is_base(p, thing):
        return False
    members = [numbers_in(item) for item in thing]
    if max([0] + [max(triple) for one in members for triple in one]) > MOST_ITEM:
        return False
    return is_closed(p, members, [head_of(one) for one in members])


def rest_by(p, polynomial, base):
    """The rest of a polynomial by a base."""
    check_figures(p)
    if not is_polynomial(p, polynomial):
        raise BadSum(polynomial)
    if not is_base(p, base):
        raise BadSum(base)
    return polynomial_with(rest_of(p, numbers_in(polynomial), base))


def rest_of(p, numbers, base):
    """The rest of a polynomial, as a dict, by what is known to be a base."""
    members = [numbers_in(item) for item in base]
    rest, _ = reduced_by(p, numbers, members, [head_of(one) for one in members])
    return rest


def check_rows(p, rows):
    """Raises BadNumber, BadRow or NotClosed for any values that are not p figures and closed rows."""
    check_figures(p)
    for row in rows:
        check_row(2, row)
    for row in rows:
        if row_end(2, row) != beginning(2):
            raise NotClosed(row)


def row_heights(p, row):
    """The heights of a closed row, by p, as a dict."""
    return by_figures(p, numbers_in(heights_of(show_of(2, row))))


def closed_for(p, told):
    """The members of a closed base for told rows, with their factors."""
    members = [(tie_of(p), [{} for _ in told])]
    for at, row in enumerate(told):
        factors = [{} for _ in told]
        factors[at][beginning(2)] = 1
        members.append((polynomial_numbers(row_heights(p, row)), factors))
    return closed_members(p, members)


def does_follow(p, told, row):
    """Whether a closed row follows from told ones."""
    return judge_follows(p, told, row)[0] == "sum"


def judge_follows(p, told, row):
    """A certificate that a closed row follows from told ones, or that it does not."""
    check_rows(p, told + (row,))
    base = closed_for(p, told)
    asked = polynomial_numbers(row_heights(p, row))
    rest, factors = reduced_member(p, (asked, [{} for _ in told]), base)
    if rest:
        return "barred", base_with(p, base)
    # The factors of the rest, which is zero, are those of the row taken away.
    return "sum", tuple([sum_with(by_figures(p, {room: -one[room] for room in one})) for one in factors])


def base_with(p, members):
    """The least base, from the members of a closed one."""
    return tuple([polynomial_with(one) for one in least_members(p, members)])


def follows_holds(p, told, row, thing):
    """Whether any value is a certificate that judge_follows may tell."""
    check_rows(p, told + (row,))
    if not isinstance(thing, tuple) or len(thing) != 2:
        return False
    if thing[0] == "sum":
        return are_factors(p, told, thing[1]) and factors_hold(p, told, row, thing[1])
    if thing[0] == "barred" and is_closed_base(p, thing[1]):
        return does_bar(p, told, row, thing[1])
    return False


def are_factors(p, told, thing):
    """Whether any value is a tuple of term sums by p, one for each told row."""
    if not isinstance(thing, tuple) or len(thing) != len(told) or not all([is_term_sum(2, item) for item in thing]):
        return False
    return all([1 <= number < p for item in thing for _, number in item])


def factors_hold(p, told, row, factors):
    """Whether the products with the heights of told rows add up to the heights of a row, by p."""
    numbers = {}
    for terms, other in zip(factors, told):
        add_product(numbers, numbers_in(terms), row_heights(p, other), 1)
    return by_figures(p, numbers) == row_heights(p, row)


def does_bar(p, told, row, base):
    """Whether the tie and told rows have no rest by what is known to be a closed base, and a row has one."""
    known = [tie_of(p)] + [polynomial_numbers(row_heights(p, other)) for other in told]
    if any([rest_of(p, one, base) != {} for one in known]):
        return False
    return rest_of(p, polynomial_numbers(row_heights(p, row)), base) != {}


def least_base(p, told):
    """The least base of told rows."""
    check_rows(p, told)
    return base_with(p, closed_for(p, told))


def many_rows(p, told):
    """The number of closed rows that are unlike for who lets the told ones count as nothing; None if endless."""
    heads = [head_of(numbers_in(member)) for member in least_base(p, told)]
    sizes = []
    for at in range(3):
        powers = [head[at] for head in heads if sum(list(head)) == head[at]]
        if powers == []:
            return None
        sizes.append(min(powers))
    rows = 1
    for a in range(sizes[0]):
        for b in range(sizes[1]):
            for c in range(sizes[2]):
                if first_below((a, b, c), heads) is None:
                    rows *= p
    return rows
