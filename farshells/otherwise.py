"""The same grid told otherwise: its places renamed, moved, sheared, or two cells taken as one."""

from farshells.grids import made_grid


def tie_between(one, other):
    """The tie of two places, and of all that stand to one another as they do."""
    return one[0], other[0], other[1] - one[1], other[2] - one[2]


def renamed_place(order, place):
    """What the place becomes where each place p of a cell is called order[p]."""
    p, x, y = place
    return order[p], x, y


def renamed_grid(grid, order):
    """The grid, each place p of a cell being called order[p]; NoGrid."""
    return made_grid(grid[0], [(order[a], order[b], x, y) for a, b, x, y in grid[1]])


def moved_place(p, x, y, place):
    """What the place becomes where all places p are moved by the cells (x, y)."""
    q, u, v = place
    return (q, u + x, v + y) if q == p else (q, u, v)


def moved_grid(grid, p, x, y):
    """The grid, all places p being moved by the cells (x, y); NoGrid."""
    return made_grid(grid[0], [
        tie_between(moved_place(p, x, y, (a, 0, 0)), moved_place(p, x, y, (b, u, v)))
        for a, b, u, v in grid[1]
    ])


def sheared_place(shear, place):
    """What the place becomes where the cell (x, y) becomes (a * x + b * y, c * x + d * y)."""
    a, b, c, d = shear
    p, x, y = place
    return p, a * x + b * y, c * x + d * y


def sheared_grid(grid, shear):
    """The grid, the cell (x, y) becoming (a * x + b * y, c * x + d * y); NoGrid."""
    return made_grid(grid[0], [
        tie_between((p, 0, 0), sheared_place(shear, (q, x, y))) for p, q, x, y in grid[1]
    ])


def doubled_place(grid, way, place):
    """What the place becomes where two cells beside one another, by x for way 0, by y for 1, become one."""
    p, x, y = place
    if way == 0:
        return p + x % 2 * grid[0], x // 2, y
    return p + y % 2 * grid[0], x, y // 2


def doubled_grid(grid, way):
    """The grid, two cells beside one another, by x for way 0, by y for 1, becoming one; NoGrid."""
    # A tie from the one cell and the same tie from the other one become two.
    cells = ((0, 0), (1, 0)) if way == 0 else ((0, 0), (0, 1))
    return made_grid(2 * grid[0], [
        tie_between(doubled_place(grid, way, (a, u, v)), doubled_place(grid, way, (b, u + x, v + y)))
        for a, b, x, y in grid[1] for u, v in cells
    ])
