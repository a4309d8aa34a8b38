"""Whether a grid hangs together, with ways or marks that show it."""

from farshells.grids import is_tuple_of_wholes
from farshells.looking import go_on
from farshells.ratios import greatest_common, is_whole
from farshells.ways import way_by, way_holds

HOME = (0, 0, 0)
RIGHT = (0, 1, 0)
UP = (0, 0, 1)


def cells_come_to(grid):
    """For each place of a cell that some way leads to from place 0, one cell where it does."""
    cells = {0: (0, 0)}
    # Each round but the last one comes to one place more at least.
    for turn in range(grid[0]):
        for a, b, x, y in grid[1]:
            if a in cells and b not in cells:
                cells[b] = (cells[a][0] + x, cells[a][1] + y)
            elif b in cells and a not in cells:
                cells[a] = (cells[b][0] - x, cells[b][1] - y)
    return cells


def steps_round(grid, cells):
    """The steps from place 0 of a cell to place 0 of another one, by each tie once.

    All such steps that ways make are sums and differences of these.
    """
    return [
        (cells[a][0] + x - cells[b][0], cells[a][1] + y - cells[b][1])
        for a, b, x, y in grid[1]
    ]


def base_with(base, step):
    """The base (a, b, d) of all sums of (a, b), (0, d) and the step, a and d from 0 on."""
    a, b, d = base
    x, y = step
    while x != 0:
        times = a // x
        a, b, x, y = x, y, a - times * x, b - times * y
    if a < 0:
        a, b = -a, -b
    return a, b, greatest_common(d, y)


def base_of(steps):
    """The base (a, b, d), such that the sums of (a, b) and (0, d) are those of all the steps."""
    base = (0, 0, 0)
    for step in steps:
        base = base_with(base, step)
    return base


def rest_left_by(base):
    """A triple (m, x, y): of each sum (u, v) of the base m divides x * u + y * v, not of all (u, v)."""
    a, b, d = base
    # Every number divides 0, so where nothing is come to in a direction 2 does as well as any.
    if a != 1:
        return (a if a > 1 else 2), 1, 0
    return (d if d > 1 else 2), -b, 1


def marks_apart(grid, cells, base):
    """The paper (m, x, y, marks) of a grid whose ways come to each place, but not of each cell."""
    m, x, y = rest_left_by(base)
    marks = [-(x * cells[p][0] + y * cells[p][1]) % m for p in range(grid[0])]
    return m, x, y, tuple(marks)


def ways_together(grid, cells):
    """The ways that show that the grid hangs together, which it must do, or there is no end."""
    ends = [(p, cells[p][0], cells[p][1]) for p in range(1, grid[0])] + [RIGHT, UP]
    far = {HOME: 0}
    rim = [HOME]
    number = 0
    while any(end not in far for end in ends):
        number += 1
        rim = go_on(grid, far, rim, number)
    return [way_by(grid, far, end) for end in ends]


def comes_to_all(base):
    """Whether all cells are sums of the base."""
    return base[0] == 1 and base[2] == 1


def hangs_together(grid):
    """Whether the grid hangs together, without the ways or marks that show it."""
    cells = cells_come_to(grid)
    return len(cells) == grid[0] and comes_to_all(base_of(steps_round(grid, cells)))


def hanging_of(grid):
    """(True, ways) or (False, (m, x, y, marks)): whether the grid hangs together, and why."""
    cells = cells_come_to(grid)
    if len(cells) < grid[0]:
        return False, (2, 0, 0, tuple([0 if p in cells else 1 for p in range(grid[0])]))
    base = base_of(steps_round(grid, cells))
    if comes_to_all(base):
        return True, ways_together(grid, cells)
    return False, marks_apart(grid, cells, base)


def ways_right(grid, ways):
    """Whether ways lead from (0, 0, 0) to each place of a cell and to the cells beside it."""
    if not all(way_holds(grid, way) and way[0] == HOME for way in ways):
        return False
    ends = [way[-1] for way in ways]
    return [end[0] for end in ends[:-2]] == list(range(1, grid[0])) and ends[-2:] == [RIGHT, UP]


def is_marking(grid, thing):
    """Whether it is (m, x, y, marks), m from 2 on, with a mark for each place of a cell."""
    if not (isinstance(thing, tuple) and len(thing) == 4):
        return False
    if not (is_whole(thing[0]) and is_whole(thing[1]) and is_whole(thing[2])):
        return False
    return thing[0] >= 2 and is_tuple_of_wholes(thing[3], grid[0])


def marks_right(grid, told):
    """Whether neighbours leave the same rest by m, and not all places do."""
    if not is_marking(grid, told):
        return False
    m, x, y, marks = told
    if any((x * u + y * v + marks[b] - marks[a]) % m != 0 for a, b, u, v in grid[1]):
        return False
    return x % m != 0 or y % m != 0 or any((mark - marks[0]) % m != 0 for mark in marks)


def hanging_right(grid, told):
    """Whether what is told of the grid's hanging together is shown by what is told with it."""
    if not (isinstance(told, tuple) and len(told) == 2):
        return False
    if told[0] is True:
        return ways_right(grid, told[1])
    return told[0] is False and marks_right(grid, told[1])
