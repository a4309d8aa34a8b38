"""How fast all within n grow, by a paper of cones and by the shape."""

from farshells.ratios import ratio_of, ratio_plus
from farshells.shape import sides_of
from farshells.terms import paper_terms
from farshells.turning import cross


def growth_of(grid, paper):
    """What twice all within n, by n * n, comes to as n grows, by a paper that holds: a ratio."""
    growth = (0, 1)
    for (first, steps), many in paper_terms(grid, paper):
        if len(steps) == 2:
            growth = ratio_plus(growth, ratio_of(many, steps[0] * steps[1]))
    return growth


def shape_area(corners):
    """The area of the figure with the points of these corners, one behind the other: a ratio."""
    twice = (0, 1)
    for one, other in sides_of(corners):
        twice = ratio_plus(twice, ratio_of(cross(one, other), one[2] * other[2]))
    # Met the other way round, the corners give the same area below 0.
    return ratio_of(abs(twice[0]), 2 * twice[1])
