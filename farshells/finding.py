"""The paper of cones of a grid and a start, found."""

from farshells.cones import (
    MOST, all_rests, cells_within, cone_ties, cones_hold, refuse_too_many, table_number,
)
from farshells.errors import TooMany
from farshells.looking import go_on
from farshells.rays import cone_cell, rays_hold
from farshells.shape import rays_of


def look_on(grid, far, rim, cells):
    """Look on from the rim till all places of the cells are come to; tell the rim then."""
    for x, y in cells:
        for p in range(grid[0]):
            while (p, x, y) not in far:
                rim = go_on(grid, far, rim, far[rim[0]] + 1)
    return rim


def far_table(far, rays, cone, rest, p, edge):
    """How far place p is at i and j steps from the rest, both at most edge."""
    cells = [[cone_cell(rays, cone, rest, i, j) for j in range(edge + 1)] for i in range(edge + 1)]
    return tuple([tuple([far[(p, x, y)] for x, y in row]) for row in cells])


def far_cones(grid, far, rays, rests, edge):
    """The tables of all cones, rests and places, with what is so far."""
    return tuple([
        tuple([
            tuple([far_table(far, rays, cone, rest, p, edge) for p in range(grid[0])])
            for rest in rests[cone]
        ])
        for cone in range(len(rays))
    ])


def table_within(table, most):
    """The part of a table to most."""
    return tuple([row[:most + 1] for row in table[:most + 1]])


def cones_within(cones, most):
    """The part to most of each table."""
    return tuple([
        tuple([tuple([table_within(table, most) for table in tables]) for tables in cone])
        for cone in cones
    ])


def table_goes_on(table, ties, most):
    """Whether the table is told by its part to most."""
    part = table_within(table, most)
    return all(
        number == table_number(part, ties, i, j)
        for i, row in enumerate(table) for j, number in enumerate(row)
    )


def cones_go_on(rays, cones, most):
    """Whether all tables are told by their parts to most."""
    return all(
        table_goes_on(table, cone_ties(rays, at), most)
        for at, cone in enumerate(cones) for tables in cone for table in tables
    )


def rays_for(grid):
    """The grid's rays, such as a paper of cones may have; NotTogether, TooMany."""
    rays = rays_of(grid)
    if not rays_hold(rays):
        raise TooMany("the grid has more rays, or longer ones, than there may be")
    refuse_too_many(grid, rays)
    return rays


def cones_of(grid, start):
    """The paper of cones with the grid's rays and the least most that holds; NotTogether, TooMany."""
    rays = rays_for(grid)
    rests = all_rests(rays)
    far = {(start, 0, 0): 0}
    rim = [(start, 0, 0)]
    for most in range(MOST + 1):
        cells = [found[0] for found in cells_within(rays, rests, most + 1)]
        rim = look_on(grid, far, rim, [(0, 0)] + cells)
        cones = far_cones(grid, far, rays, rests, most + 1)
        # What holds tells how far all places are, so it is judged only where it does one step beyond most.
        if cones_go_on(rays, cones, most):
            home = tuple([far[(p, 0, 0)] for p in range(grid[0])])
            paper = (most, rays, home, cones_within(cones, most))
            if cones_hold(grid, start, paper):
                return paper
    raise TooMany("no paper of cones with so small tables holds")
