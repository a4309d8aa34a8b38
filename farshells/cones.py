"""Papers of cones: a number for each place of the whole grid, and whether it is how far it is."""

from farshells.errors import TooMany
from farshells.grids import is_tuple_of_wholes, steps_from
from farshells.looking import fits_beside
from farshells.ratios import is_whole
from farshells.rays import all_cone_steps, cone_cell, cone_place, cone_rests, rays_hold, reach_of
from farshells.turning import cross

MOST = 8
MOST_TABLES = 200
FURTHEST_REACH = 12


def refuse_too_many(grid, rays):
    """TooMany where rays that hold need more tables, or a further reach, than there may be."""
    rests = sum([cross(one, other) for one, other in all_cone_steps(rays)])
    if grid[0] * rests > MOST_TABLES:
        raise TooMany("there are too many tables")
    if reach_of(rays) > FURTHEST_REACH:
        raise TooMany("the reach is too far")


def all_rests(rays):
    """The rests of each cone."""
    return [cone_rests(rays, cone) for cone in range(len(rays))]


def cone_ties(rays, cone):
    """The ties of the cone's two rays."""
    return rays[cone][1], rays[(cone + 1) % len(rays)][1]


def table_number(table, ties, i, j):
    """The number at (i, j), also beyond the table, by the ties of its cone's rays."""
    most = len(table) - 1
    within = table[min(i, most)][min(j, most)]
    return within + max(0, i - most) * ties[0] + max(0, j - most) * ties[1]


def cones_number(grid, paper, place):
    """The number that the paper tells of the place."""
    most, rays, home, cones = paper
    p, x, y = place
    if (x, y) == (0, 0):
        return home[p]
    cone, rest, i, j = cone_place(rays, (x, y))
    at = cone_rests(rays, cone).index(rest)
    return table_number(cones[cone][at][p], cone_ties(rays, cone), i, j)


def is_tuple_of(thing, length):
    """Whether it is a tuple of just so many things."""
    return isinstance(thing, tuple) and len(thing) == length


def is_table(thing, size):
    """Whether it is a tuple of so many tuples of so many whole numbers."""
    return is_tuple_of(thing, size) and all(is_tuple_of_wholes(row, size) for row in thing)


def are_tables(thing, places, size):
    """Whether it is a tuple with a table for each place."""
    return is_tuple_of(thing, places) and all(is_table(table, size) for table in thing)


def is_cone(thing, rests, places, size):
    """Whether it is a tuple with tables for each rest."""
    return is_tuple_of(thing, len(rests)) and all(are_tables(tables, places, size) for tables in thing)


def is_paper(grid, paper, rests):
    """Whether four things have the form of a paper, the rays being such, with these rests."""
    most, rays, home, cones = paper
    if not (is_whole(most) and 0 <= most <= MOST and is_tuple_of_wholes(home, grid[0])):
        return False
    if not is_tuple_of(cones, len(rays)):
        return False
    return all(is_cone(cone, some, grid[0], most + 1) for cone, some in zip(cones, rests))


def cells_within(rays, rests, edge):
    """All (cell, cone, at, i, j) whose i and j are at most edge, at being the rest's number in its cone."""
    return [
        (cone_cell(rays, cone, rest, i, j), cone, at, i, j)
        for cone in range(len(rays)) for at, rest in enumerate(rests[cone])
        for i in range(edge + 1) for j in range(edge + 1)
    ]


def numbers_within(paper, rests, edge):
    """For each cell whose i and j are at most edge, and for (0, 0), the numbers of its places."""
    most, rays, home, cones = paper
    ties = [cone_ties(rays, cone) for cone in range(len(rays))]
    numbers = {(0, 0): home}
    for cell, cone, at, i, j in cells_within(rays, rests, edge):
        numbers[cell] = [table_number(table, ties[cone], i, j) for table in cones[cone][at]]
    return numbers


def cell_right(grid, start, paper, steps, numbers, cell):
    """Whether the numbers of all places of the cell fit those of their neighbours."""
    x, y = cell
    for p, number in enumerate(numbers[cell]):
        beside = [
            numbers[(x + u, y + v)][q] if (x + u, y + v) in numbers
            else cones_number(grid, paper, (q, x + u, y + v))
            for q, u, v in steps[p]
        ]
        if not fits_beside(number, beside, (p, x, y) == (start, 0, 0)):
            return False
    return True


def cones_hold(grid, start, paper):
    """Whether the paper tells how far each place is from the start; TooMany of rays that hold."""
    if not (is_tuple_of(paper, 4) and rays_hold(paper[1])):
        return False
    refuse_too_many(grid, paper[1])
    rests = all_rests(paper[1])
    if not is_paper(grid, paper, rests):
        return False
    # Beyond these cells each place stands among its neighbours as it does one step nearer.
    numbers = numbers_within(paper, rests, paper[0] + reach_of(paper[1]))
    steps = [steps_from(grid, p) for p in range(grid[0])]
    return all(cell_right(grid, start, paper, steps, numbers, cell) for cell in numbers)
