"""Rows with told shows and the fewest steps."""

from stilewalks.built import barred_by
from stilewalks.errors import NotBalanced
from stilewalks.joining import joining_passages
from stilewalks.rooms import beginning, neighbour
from stilewalks.rounds import all_steps, show_pieces, steps_of_show
from stilewalks.shows import check_show


def check_balanced(r, show):
    """Raises BadShow or NotBalanced for any value that is no balanced show."""
    check_show(r, show)
    barred = barred_by(r, show)
    if barred is not None:
        raise NotBalanced(barred)


def lots_of(r, show):
    """The lots of a balanced show: its pieces, and the beginning and its end, each alone if it is in no piece."""
    lots = list(show_pieces(show))
    # An end other than the beginning needs no look: something is left over there, so it is in a piece.
    if not any([beginning(r) in lot for lot in lots]):
        lots.append((beginning(r),))
    return lots


def joining_for(r, show):
    """As few joining passages as a balanced show can have."""
    return joining_passages(r, show, lots_of(r, show))


def fewest_joining(r, show):
    """The least number of joining passages of a balanced show."""
    check_balanced(r, show)
    return len(joining_for(r, show))


def fewest_steps(r, show):
    """The least number of steps of a row with a show."""
    check_balanced(r, show)
    return sum([abs(number) for _, _, number in show]) + 2 * len(joining_for(r, show))


def shortest_row(r, show):
    """A row with a show and the least number of steps."""
    check_balanced(r, show)
    steps = steps_of_show(show)
    for room, i in joining_for(r, show):
        # Once ahead and once back, so that the stile shows 0 again.
        steps.setdefault(room, []).append(i)
        steps.setdefault(neighbour(room, i), []).append(-i)
    return all_steps(beginning(r), steps)
