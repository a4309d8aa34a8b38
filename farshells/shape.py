"""The shape of the far ones: its corners, rounds that reach them, heights that keep all within."""

from farshells.errors import NotTogether
from farshells.grids import is_tuple_of_wholes
from farshells.hanging import hangs_together
from farshells.heights import heights_hold
from farshells.ratios import greatest_common, least_multiple
from farshells.rounds import comes_anew, comes_round, round_ways, rounds_of, told_of
from farshells.turning import cross, in_turn, is_met_ahead, least_step
from farshells.ways import way_holds


def point_turn(one, two, three):
    """Above 0 where the points of three rounds turn to the left, 0 where they lie in one line."""
    return one[2] * cross(two, three) - two[2] * cross(one, three) + three[2] * cross(one, two)


def is_further(one, other):
    """Whether, of two rounds in one direction, the one has the further point."""
    return (abs(one[0]) + abs(one[1])) * other[2] > (abs(other[0]) + abs(other[1])) * one[2]


def furthest_rounds(rounds):
    """For each direction, in turn, the shortest round with the furthest point."""
    furthest = {}
    for one in sorted(rounds, key=lambda told: told[2]):
        direction = least_step(one)
        if direction not in furthest or is_further(one, furthest[direction]):
            furthest[direction] = one
    return [furthest[direction] for direction in in_turn(list(furthest))]


def left_turns(corners):
    """Those at which one turns to the left, going from the one ahead to the next one."""
    ahead = corners[-1:] + corners[:-1]
    behind = corners[1:] + corners[:1]
    return [two for one, two, three in zip(ahead, corners, behind) if point_turn(one, two, three) > 0]


def corners_of(rounds):
    """The corners of the least convex figure with all points of the rounds, in turn."""
    corners = furthest_rounds(rounds)
    kept = left_turns(corners)
    # Each that is left out lies between the middle and two others, so no corner ever is.
    while len(kept) < len(corners):
        corners = kept
        kept = left_turns(corners)
    return corners


def sides_of(corners):
    """The pairs of each corner and the next one, behind the last the first."""
    return list(zip(corners, corners[1:] + corners[:1]))


def slope_of(one, other):
    """(x, y, bottom) of heights by which two corners' points have just the height bottom."""
    x = one[2] * other[1] - other[2] * one[1]
    y = one[0] * other[2] - other[0] * one[2]
    bottom = cross(one, other)
    common = greatest_common(greatest_common(x, y), bottom)
    return x // common, y // common, bottom // common


def side_heights(grid, one, other):
    """Heights that hold and meet the two corners just."""
    x, y, bottom = slope_of(one, other)
    marks = [0] * grid[0]
    # No round climbs faster than bottom, so going through the ties once for each place is enough.
    for turn in range(grid[0]):
        for a, b, u, v in grid[1]:
            rise = x * u + y * v
            marks[b] = min(marks[b], marks[a] + bottom - rise)
            marks[a] = min(marks[a], marks[b] + bottom + rise)
    return x, y, tuple(marks), bottom


def rounds_together(grid):
    """All rounds of a grid that hangs together; NotTogether."""
    if not hangs_together(grid):
        raise NotTogether("only a grid that hangs together has a shape")
    return rounds_of(grid)


def shape_of(grid):
    """(corners, ways, sides): the shape, a round for each corner, heights for each side; NotTogether."""
    corners = corners_of(rounds_together(grid))
    ways = {told_of(way): way for way in round_ways(grid)}
    sides = [side_heights(grid, one, other) for one, other in sides_of(corners)]
    return corners, [ways[corner] for corner in corners], sides


def is_round(grid, way):
    """Whether it is a round, from cell (0, 0)."""
    if not (way_holds(grid, way) and way[0][1:] == (0, 0)):
        return False
    return comes_round(way) and all(comes_anew(way[:many]) for many in range(1, len(way)))


def is_shortest(rounds, corner):
    """Whether no shorter round has the corner's point."""
    return not any(
        one[2] < corner[2] and one[0] * corner[2] == corner[0] * one[2] and one[1] * corner[2] == corner[1] * one[2]
        for one in rounds
    )


def goes_once_round(corners):
    """Whether the corners turn to the left, and are met in this order from the direction (1, 0) on."""
    if not all(is_met_ahead(one, other) for one, other in zip(corners, corners[1:])):
        return False
    return left_turns(corners) == corners and len(corners) > 0


def meets(heights, corner):
    """Whether by the heights the corner's round climbs by just bottom with each tie."""
    x, y, marks, bottom = heights
    return x * corner[0] + y * corner[1] == bottom * corner[2]


def is_side(grid, heights, one, other):
    """Whether the heights hold and meet both corners just."""
    return heights_hold(grid, heights) and meets(heights, one) and meets(heights, other)


def shape_right(grid, told):
    """Whether it is the shape of the grid, with a round for each corner and heights for each side."""
    if not (isinstance(told, tuple) and len(told) == 3 and hangs_together(grid)):
        return False
    if not all(isinstance(part, (list, tuple)) and len(part) == len(told[0]) for part in told):
        return False
    corners, ways, sides = [list(part) for part in told]
    if not (all(is_tuple_of_wholes(corner, 3) for corner in corners) and goes_once_round(corners)):
        return False
    if not all(is_round(grid, way) and told_of(way) == corner for way, corner in zip(ways, corners)):
        return False
    rounds = rounds_of(grid)
    if not all(is_shortest(rounds, corner) for corner in corners):
        return False
    return all(is_side(grid, side, one, other) for side, (one, other) in zip(sides, sides_of(corners)))


def is_on_rim(corners, one):
    """Whether the round's point lies on the rim of the figure with these corners."""
    return any(point_turn(one, first, second) == 0 for first, second in sides_of(corners))


def ray_by(rounds):
    """The ray ((x, y), ties) of the rounds on the rim in one direction."""
    times = 1
    for x, y, length in rounds:
        times = least_multiple(times, greatest_common(x, y))
    x, y, length = rounds[0]
    common = greatest_common(x, y)
    return (x * times // common, y * times // common), length * times // common


def rays_of(grid):
    """The rays of the grid: ((x, y), ties) for each direction of a round on the rim; NotTogether."""
    rounds = rounds_together(grid)
    corners = corners_of(rounds)
    directions = {}
    for one in rounds:
        if is_on_rim(corners, one):
            directions.setdefault(least_step(one), []).append(one)
    return tuple([ray_by(directions[direction]) for direction in in_turn(list(directions))])
