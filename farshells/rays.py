"""Rays, the cones between them, and how each cell stands in its cone."""

from farshells.grids import is_tuple_of_wholes
from farshells.hanging import base_of
from farshells.ratios import is_whole, ratio_of, ratio_plus, ratio_times, whole_up
from farshells.turning import cross, is_met_ahead

FEWEST_RAYS = 3
MOST_RAYS = 40
LONGEST_STEP = 60
MOST_RAY_TIES = 200
CELLS_BESIDE = ((-1, -1), (-1, 0), (-1, 1), (0, -1), (0, 1), (1, -1), (1, 0), (1, 1))


def is_ray(thing):
    """Whether it is a pair ((x, y), ties), all of them within bounds."""
    if not (isinstance(thing, tuple) and len(thing) == 2):
        return False
    step, ties = thing
    if not (is_tuple_of_wholes(step, 2) and is_whole(ties)):
        return False
    return abs(step[0]) <= LONGEST_STEP and abs(step[1]) <= LONGEST_STEP and 1 <= ties <= MOST_RAY_TIES


def cone_steps(rays, i):
    """The steps of the cone's two rays: of ray i, and of the next one, behind the last of the first."""
    return rays[i][0], rays[(i + 1) % len(rays)][0]


def all_cone_steps(rays):
    """The steps of each cone's two rays."""
    return [cone_steps(rays, i) for i in range(len(rays))]


def rays_hold(rays):
    """Whether it is rays: each to the left of the one ahead by less than half a turn, once round."""
    if not (isinstance(rays, tuple) and FEWEST_RAYS <= len(rays) <= MOST_RAYS):
        return False
    if not all(is_ray(ray) for ray in rays):
        return False
    turns = all_cone_steps(rays)
    if not all(cross(one, other) > 0 for one, other in turns):
        return False
    # One goes round as often as one comes past the direction (1, 0).
    return len([one for one, other in turns if not is_met_ahead(one, other)]) == 1


def rest_and_steps(one, other, cell):
    """(rest, i, j): the cell is the rest, i times the one step and j times the other.

    The rest is s times the one and t times the other, s above 0 and at most 1, t from 0 on and below 1.
    """
    whole = cross(one, other)
    # Rounded up, so that s = 1 is left of a cell on the ray; hence floor division of the negative.
    i = -(-cross(cell, other) // whole) - 1
    j = cross(one, cell) // whole
    return (cell[0] - i * one[0] - j * other[0], cell[1] - i * one[1] - j * other[1]), i, j


def cone_rests(rays, i):
    """The rising list of the rests of cone i."""
    one, other = cone_steps(rays, i)
    # Whole steps lead to each cell from just one of these, so each rest comes up once.
    wide, slant, high = base_of([one, other])
    return sorted([rest_and_steps(one, other, (x, y))[0] for x in range(wide) for y in range(high)])


def cone_place(rays, cell):
    """(cone, rest, i, j) of a cell that is not (0, 0): its cone, and how it is come to in it."""
    for cone, (one, other) in enumerate(all_cone_steps(rays)):
        if cross(one, cell) >= 0 and cross(cell, other) > 0:
            rest, i, j = rest_and_steps(one, other, cell)
            return cone, rest, i, j
    return None


def cone_cell(rays, cone, rest, i, j):
    """The cell at i and j steps from the rest."""
    one, other = cone_steps(rays, cone)
    return rest[0] + i * one[0] + j * other[0], rest[1] + i * one[1] + j * other[1]


def taken_beside(one, other):
    """How often at most each of two steps is taken in a cell beside (0, 0): two ratios."""
    whole = cross(one, other)
    return (
        ratio_of(max([abs(cross(cell, other)) for cell in CELLS_BESIDE]), whole),
        ratio_of(max([abs(cross(one, cell)) for cell in CELLS_BESIDE]), whole),
    )


def cone_reach(rays, cone):
    """What the reach is by one cone, without the 2."""
    one, other = cone_steps(rays, cone)
    ahead = rays[cone - 1][0]
    behind = rays[(cone + 2) % len(rays)][0]
    often_one, often_other = taken_beside(one, other)
    # How often the other takes the one, told by the ray ahead and the one; and likewise behind.
    takes_one = ratio_of(abs(cross(ahead, other)), cross(ahead, one))
    takes_other = ratio_of(abs(cross(one, behind)), cross(other, behind))
    return max(
        whole_up(ratio_plus(often_one, ratio_times(often_other, takes_one))),
        whole_up(ratio_plus(often_other, ratio_times(often_one, takes_other))),
    )


def reach_of(rays):
    """The reach: how many steps more than most have to be judged."""
    return 2 + max([cone_reach(rays, cone) for cone in range(len(rays))])
