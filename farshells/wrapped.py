"""Grids wrapped: all cells that leave the same rests are one, so that there is an end."""

from farshells.errors import NotTogether
from farshells.grids import steps_from
from farshells.hanging import hangs_together
from farshells.looking import go_on
from farshells.ways import way_by


def wrapped_beside(grid, place, m, n):
    """The neighbours of a place of the grid wrapped by (m, n)."""
    p, u, v = place
    return [(q, (u + x) % m, (v + y) % n) for q, x, y in steps_from(grid, p)]


def go_on_wrapped(grid, seen, rim, m, n):
    """Write down all neighbours of the rim that are new; tell them."""
    found = []
    for place in rim:
        for other in wrapped_beside(grid, place, m, n):
            if other not in seen:
                seen[other] = True
                found.append(other)
    return found


def wrapped_shells(grid, start, m, n):
    """How many places of the grid wrapped by (m, n) are just so far from the start, from 0 to the furthest."""
    rim = [(start, 0, 0)]
    seen = {(start, 0, 0): True}
    shells = []
    while len(rim) > 0:
        shells.append(len(rim))
        rim = go_on_wrapped(grid, seen, rim, m, n)
    return shells


def way_about(grid, p, m, n):
    """A shortest way from (p, 0, 0) to another place that is the same one, the grid being wrapped."""
    far = {(p, 0, 0): 0}
    rim = [(p, 0, 0)]
    ends = []
    while len(ends) == 0:
        rim = go_on(grid, far, rim, far[rim[0]] + 1)
        ends = [place for place in rim if place[0] == p and place[1] % m == 0 and place[2] % n == 0]
    return way_by(grid, far, ends[0])


def round_about(grid, m, n):
    """(ties, way): a shortest way from some place to one that is the same, wrapped by (m, n); NotTogether."""
    if not hangs_together(grid):
        raise NotTogether("only a grid that hangs together has a round about")
    way = min([way_about(grid, p, m, n) for p in range(grid[0])], key=len)
    return len(way) - 1, way
