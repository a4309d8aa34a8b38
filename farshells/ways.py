"""Ways: lists of places, each a neighbour of the one ahead."""

from farshells.errors import TooFar
from farshells.grids import is_place, neighbours_of
from farshells.looking import go_on

FURTHEST = 12


def way_holds(grid, way):
    """Whether it is a way of the grid."""
    if not (isinstance(way, (list, tuple)) and len(way) > 0):
        return False
    if not all(is_place(grid, place) for place in way):
        return False
    return all(other in neighbours_of(grid, one) for one, other in zip(way, way[1:]))


def nearer_one(grid, far, place):
    """The first neighbour that is one tie nearer."""
    return [other for other in neighbours_of(grid, place) if far.get(other) == far[place] - 1][0]


def way_by(grid, far, place):
    """A shortest way to the place, by how far all places on the way are."""
    way = [place]
    while far[way[-1]] > 0:
        way.append(nearer_one(grid, far, way[-1]))
    return way[::-1]


def far_till(grid, start, place):
    """How far the places are that are no further than this one, or than is looked for."""
    home = (start, 0, 0)
    far = {home: 0}
    rim = [home]
    for number in range(1, FURTHEST + 1):
        if place in far:
            break
        rim = go_on(grid, far, rim, number)
    return far


def way_to(grid, start, place):
    """A shortest way from the start to the place; TooFar where it has more than 12 ties."""
    far = far_till(grid, start, place)
    if place not in far:
        raise TooFar("no way of at most 12 ties leads to this place")
    return way_by(grid, far, place)
