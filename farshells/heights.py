"""Heights of places: what no way can climb faster than."""

from farshells.grids import is_tuple_of_wholes
from farshells.ratios import is_whole


def is_heights(grid, thing):
    """Whether it is (x, y, marks, bottom), with a mark for each place of a cell, bottom from 1 on."""
    if not (isinstance(thing, tuple) and len(thing) == 4):
        return False
    x, y, marks, bottom = thing
    if not (is_whole(x) and is_whole(y) and is_whole(bottom)):
        return False
    return bottom >= 1 and is_tuple_of_wholes(marks, grid[0])


def heights_hold(grid, heights):
    """Whether no tie climbs or falls by more than bottom."""
    if not is_heights(grid, heights):
        return False
    x, y, marks, bottom = heights
    return all(abs(x * u + y * v + marks[b] - marks[a]) <= bottom for a, b, u, v in grid[1])


def height_of(heights, place):
    """The height of the place."""
    x, y, marks, bottom = heights
    p, u, v = place
    return x * u + y * v + marks[p]


def far_at_least(heights, one, other):
    """How far the two places are at least, by heights that hold."""
    difference = abs(height_of(heights, one) - height_of(heights, other))
    # Rounded up: floor division of the negative one, turned back.
    return -(-difference // heights[3])
