"""Rounds: ways to the same place of another cell that come to each other place of a cell once at most."""

from farshells.grids import neighbours_of


def comes_round(way):
    """Whether its last place is the first one, in another cell."""
    return way[-1][0] == way[0][0] and way[-1] != way[0]


def comes_anew(way):
    """Whether its last place is no place ahead, in whatever cell."""
    return way[-1][0] not in [place[0] for place in way[:-1]]


def round_ways(grid):
    """All rounds, each as a way."""
    found = []
    begun = [[(p, 0, 0)] for p in range(grid[0])]
    # A round has at most as many ties as a cell has places.
    for length in range(grid[0]):
        longer = [way + [other] for way in begun for other in neighbours_of(grid, way[-1])]
        found.extend([way for way in longer if comes_round(way)])
        begun = [way for way in longer if comes_anew(way)]
    return found


def told_of(way):
    """What is told of a round: (x, y, length)."""
    return way[-1][1], way[-1][2], len(way) - 1


def rounds_of(grid):
    """The rising list of all (x, y, length) of rounds."""
    return sorted({told_of(way) for way in round_ways(grid)})
