"""Grids, their places and which of these are neighbours."""

from farshells.errors import NoGrid, NoPlace
from farshells.ratios import is_whole

MOST_PLACES = 4
MOST_TIES = 16
MOST_TIES_HANDED_IN = 50
TOO_LARGE = 10 ** 30


def is_tuple_of_wholes(thing, length):
    """Whether it is a tuple of just so many whole numbers."""
    if not (isinstance(thing, tuple) and len(thing) == length):
        return False
    return all(is_whole(number) for number in thing)


def is_places(thing):
    """Whether a cell can have so many places."""
    return is_whole(thing) and 1 <= thing <= MOST_PLACES


def is_tie(thing, places, directions, bound):
    """Whether it is a tie: two places and a step, to the bound, in each direction.

    A tie can be told from both its ends; just one of the two counts, so that
    no tie is there twice: from the lesser place, or by the step above nought.
    """
    if not is_tuple_of_wholes(thing, 2 + directions):
        return False
    if not 0 <= thing[0] <= thing[1] < places:
        return False
    if any(abs(step) > bound for step in thing[2:]):
        return False
    return thing[0] < thing[1] or thing[2:] > (0,) * directions


def are_ties(thing, places, directions, bound):
    """Whether it is a rising tuple of ties."""
    if not isinstance(thing, tuple):
        return False
    if not all(is_tie(tie, places, directions, bound) for tie in thing):
        return False
    return all(one < other for one, other in zip(thing, thing[1:]))


def is_grid(thing):
    """Whether it is a grid: (places, ties)."""
    if not (isinstance(thing, tuple) and len(thing) == 2):
        return False
    return is_places(thing[0]) and are_ties(thing[1], thing[0], 2, 1) and len(thing[1]) <= MOST_TIES


def tie_from_first(tie, places):
    """The tie as a grid has it, from whichever end it is written; NoGrid where it is none."""
    if is_tie(tie, places, 2, 1):
        return tuple(tie)
    if not is_tuple_of_wholes(tie, 4):
        raise NoGrid("a tie is a tuple of four whole numbers")
    turned = (tie[1], tie[0], -tie[2], -tie[3])
    if not is_tie(turned, places, 2, 1):
        raise NoGrid("a tie ties two places of the same cell or of cells beside one another")
    return turned


def made_grid(places, ties):
    """The grid of so many places and these ties, each from either end; NoGrid."""
    if not is_places(places):
        raise NoGrid("a cell has from 1 to 4 places")
    if not (isinstance(ties, (list, tuple)) and len(ties) <= MOST_TIES_HANDED_IN):
        raise NoGrid("ties are handed in as a list of at most fifty")
    unlike = sorted({tie_from_first(tie, places) for tie in ties})
    if len(unlike) > MOST_TIES:
        raise NoGrid("a grid has at most sixteen ties")
    return places, tuple(unlike)


def is_place(grid, thing):
    """Whether it is a place of the grid: (p, x, y), x and y to thirty figures."""
    if not is_tuple_of_wholes(thing, 3):
        return False
    return 0 <= thing[0] < grid[0] and abs(thing[1]) < TOO_LARGE and abs(thing[2]) < TOO_LARGE


def steps_from(grid, p):
    """The neighbours of place p of the cell (0, 0)."""
    # A tie of a place p to another p leads on from both ends, so both tests can be due.
    onward = [(b, x, y) for a, b, x, y in grid[1] if a == p]
    backward = [(a, -x, -y) for a, b, x, y in grid[1] if b == p]
    return onward + backward


def neighbours_of(grid, place):
    """The rising list of the place's neighbours; NoPlace where it is no place of the grid."""
    if not is_place(grid, place):
        raise NoPlace("this is no place of the grid")
    p, u, v = place
    return sorted([(q, u + x, v + y) for q, x, y in steps_from(grid, p)])
