"""Point 20, with 16 and 18: the paper of cones, found."""

import functools
import unittest

from farshells.cones import cones_hold, cones_number
from farshells.errors import NotTogether, TooMany
from farshells.finding import cones_of
from farshells.hanging import hanging_of
from farshells.shape import rays_of
from samples import (
    APART, CROOKED, HONEYCOMB, KAGOME, KINGS, OCTAGONS, SQUARES, TRIANGLES, searched, some_grids, ties_from,
)
from test_cones import holds_by_words, paper_of
from test_rays import cross, reach_by_words, steps_of
from test_shape import rays_by_words

BRICKS = (2, ((0, 1, 0, 0), (0, 1, 0, 1), (0, 1, 1, 0)))
WALL = (2, ((0, 1, -1, 0), (0, 1, 0, 0), (0, 1, 1, 1)))
WELL_KNOWN = (SQUARES, TRIANGLES, KINGS, BRICKS, WALL, HONEYCOMB, KAGOME, OCTAGONS)
# Each with a start of which the least most is this.
BY_MOST = (
    (0, (2, ((0, 0, 1, -1), (0, 0, 1, 1), (0, 1, 0, 0), (0, 1, 0, 1))), 1),
    (1, (2, ((0, 0, 0, 1), (0, 1, -1, -1), (0, 1, -1, 0), (0, 1, 0, 1))), 1),
    (2, (2, ((0, 0, 1, 1), (0, 1, 0, 0), (1, 1, 0, 1), (1, 1, 1, 0))), 1),
    (3, (2, ((0, 0, 1, 1), (0, 1, -1, 0), (0, 1, 1, -1), (1, 1, 0, 1))), 0),
    (4, (2, ((0, 0, 0, 1), (0, 0, 1, 1), (0, 1, -1, 1), (0, 1, 1, -1))), 1),
    (5, (3, ((0, 0, 1, 1), (0, 1, -1, 1), (0, 2, 1, 0), (1, 2, 1, 1), (2, 2, 0, 1))), 0),
    (6, (3, ((0, 0, 1, 0), (0, 2, 0, 1), (1, 2, 0, 1), (1, 2, 1, -1), (2, 2, 1, 1))), 1),
    (7, (3, ((0, 0, 0, 1), (0, 2, -1, 1), (0, 2, 1, -1), (1, 2, 0, -1), (1, 2, 1, 1))), 2),
    (8, (4, ((0, 2, 0, -1), (1, 1, 0, 1), (1, 3, 0, -1), (2, 2, 1, 1), (2, 3, -1, 0), (2, 3, 1, -1))), 0),
)
# Forty-two directions lie on the rim of its shape.
MANY_RAYS = (4, (
    (0, 1, 0, 1), (0, 1, 1, -1), (0, 2, -1, -1), (0, 2, -1, 1), (0, 2, 0, -1), (0, 3, 0, -1), (0, 3, 0, 0),
    (0, 3, 1, -1), (0, 3, 1, 0), (0, 3, 1, 1), (1, 2, 1, -1), (1, 3, -1, 0), (1, 3, 0, -1), (1, 3, 0, 1),
    (2, 3, -1, -1), (2, 3, 1, -1),
))
# Its rays have few tables but come close to one another, so the reach is thirteen.
FAR_REACH = (4, ((0, 1, 1, 1), (0, 2, -1, -1), (0, 3, -1, 0), (1, 2, 1, -1), (1, 2, 1, 0), (2, 2, 1, 0), (3, 3, 1, 1)))
# Up and down place 0 goes on by two cells, but place 1 by one: no step of (0, 1) does for both.
NO_MOST = (
    (2, ((0, 0, 1, -1), (0, 0, 1, 1), (0, 1, 0, 1), (1, 1, 0, 1))),
    (2, ((0, 0, 0, 1), (0, 1, 1, 1), (1, 1, 1, -1), (1, 1, 1, 1))),
)
SOME = tuple(grid for grid in some_grids(30, seed=20) if hanging_of(grid)[0])


def tables_of(grid, rays):
    return grid[0] * sum(cross(*steps_of(rays, i)) for i in range(len(rays)))


def is_beyond(grid):
    """Whether the grid's rays are none as in 17, or their tables beyond 18; such steps and ties are never too long."""
    rays = rays_of(grid)
    return len(rays) > 40 or tables_of(grid, rays) > 200 or reach_by_words(rays) > 12


@functools.cache
def found(grid, start):
    """The paper that is told, None where it is refused."""
    try:
        return cones_of(grid, start)
    except TooMany:
        return None


class Found(unittest.TestCase):
    def assertFound(self, grid, start):
        """All that point 20 says of the paper told."""
        paper = cones_of(grid, start)
        with self.subTest(grid=grid, start=start):
            self.assertEqual(paper[1], rays_of(grid))
            self.assertEqual(paper, paper_of(grid, start, rays_of(grid), paper[0]))
            self.assertIs(cones_hold(grid, start, paper), True)
            # What holds tells how far places are, so of each lesser most there is just one that could.
            for most in range(paper[0]):
                self.assertIs(cones_hold(grid, start, paper_of(grid, start, rays_of(grid), most)), False)
            look = searched(grid, start, 12)
            for place, far in look.items():
                self.assertEqual(cones_number(grid, paper, place), far)
            for place in {other for place in look for other in ties_from(grid, place)} - set(look):
                self.assertEqual(cones_number(grid, paper, place), 13)

    def test_well_known_ones(self):
        for grid in WELL_KNOWN:
            for start in range(grid[0]):
                self.assertFound(grid, start)

    def test_they_hold_by_every_clause(self):
        for grid in WELL_KNOWN:
            paper = cones_of(grid, 0)
            with self.subTest(grid):
                self.assertTrue(holds_by_words(grid, 0, paper))
                if paper[0] > 0:
                    self.assertFalse(holds_by_words(grid, 0, paper_of(grid, 0, paper[1], paper[0] - 1)))

    def test_by_hand(self):
        row = (1,)
        cone = (((row,),),)
        rays = (((1, 0), 1), ((0, 1), 1), ((-1, 0), 1), ((0, -1), 1))
        self.assertEqual(cones_of(SQUARES, 0), (0, rays, (0,), (cone,) * 4))
        self.assertEqual([cones_of(grid, 0)[0] for grid in WELL_KNOWN], [0, 0, 0, 1, 1, 1, 1, 1])

    def test_each_most(self):
        for most, grid, start in BY_MOST:
            self.assertEqual(cones_of(grid, start)[0], most)
            self.assertFound(grid, start)

    def test_drawn_ones(self):
        many = 0
        for grid in SOME:
            for start in range(grid[0]):
                if found(grid, start) is not None:
                    many += 1
                    self.assertFound(grid, start)
        self.assertGreater(many, 20)

    def test_its_form(self):
        for grid in WELL_KNOWN:
            most, rays, home, cones = paper = cones_of(grid, 0)
            self.assertEqual([type(part) for part in paper], [int, tuple, tuple, tuple])
            self.assertTrue(all(type(number) is int for number in home))
            for cone in cones:
                self.assertIs(type(cone), tuple)
                for tables in cone:
                    self.assertIs(type(tables), tuple)
                    for table in tables:
                        self.assertIs(type(table), tuple)
                        self.assertTrue(all(type(row) is tuple and len(row) == most + 1 for row in table))

    def test_told_again_it_is_the_same(self):
        for most, grid, start in BY_MOST:
            self.assertEqual(cones_of(grid, start), cones_of(grid, start))
        for grid in WELL_KNOWN:
            for start in range(grid[0]):
                self.assertEqual(cones_of(grid, start), cones_of(grid, start))


class Refused(unittest.TestCase):
    def test_not_together(self):
        for grid in APART + tuple(grid for grid in some_grids(60, seed=21) if not hanging_of(grid)[0]):
            for start in range(grid[0]):
                with self.subTest(grid=grid, start=start):
                    self.assertRaises(NotTogether, cones_of, grid, start)

    def test_not_together_ahead_of_too_many(self):
        # No way leads to place 3 of the first, to place 0 of the second, and both have rounds enough to be beyond.
        for grid, tables, reach in (
            ((4, ((0, 1, -1, 0), (0, 1, 1, 0), (0, 2, -1, -1), (0, 2, -1, 1), (1, 2, 1, 0), (1, 2, 1, 1))), 216, 7),
            ((4, ((1, 2, 0, 1), (1, 3, -1, -1), (2, 3, 0, -1), (2, 3, 1, 0), (2, 3, 1, 1))), 48, 13),
        ):
            rays = rays_by_words(grid)
            self.assertEqual((tables_of(grid, rays), reach_by_words(rays)), (tables, reach))
            for start in range(4):
                self.assertRaises(NotTogether, cones_of, grid, start)

    def assertRefused(self, grid):
        for start in range(grid[0]):
            with self.subTest(grid=grid, start=start):
                self.assertRaises(TooMany, cones_of, grid, start)

    def test_too_many_rays(self):
        self.assertEqual(len(rays_of(MANY_RAYS)), 42)
        self.assertRefused(MANY_RAYS)

    def test_too_many_tables(self):
        self.assertGreater(tables_of(CROOKED, rays_of(CROOKED)), 200)
        self.assertLessEqual(reach_by_words(rays_of(CROOKED)), 12)
        self.assertRefused(CROOKED)

    def test_a_reach_too_far(self):
        self.assertLessEqual(tables_of(FAR_REACH, rays_of(FAR_REACH)), 200)
        self.assertEqual(reach_by_words(rays_of(FAR_REACH)), 13)
        self.assertRefused(FAR_REACH)

    def test_no_most_does(self):
        for grid in NO_MOST:
            self.assertFalse(is_beyond(grid))
            for start in range(grid[0]):
                if found(grid, start) is None:
                    for most in range(9):
                        paper = paper_of(grid, start, rays_of(grid), most)
                        self.assertIs(cones_hold(grid, start, paper), False)
        self.assertRaises(TooMany, cones_of, NO_MOST[0], 0)
        self.assertRaises(TooMany, cones_of, NO_MOST[1], 1)

    def test_drawn_ones(self):
        seen = {True: 0, False: 0}
        for grid in some_grids(110, seed=25):
            if hanging_of(grid)[0] and found(grid, 0) is None:
                seen[is_beyond(grid)] += 1
                if not is_beyond(grid):
                    for most in range(9):
                        paper = paper_of(grid, 0, rays_of(grid), most)
                        self.assertIs(cones_hold(grid, 0, paper), False)
            elif hanging_of(grid)[0]:
                self.assertFalse(is_beyond(grid))
        self.assertGreater(seen[True], 3)
        self.assertGreater(seen[False], 0)


if __name__ == "__main__":
    unittest.main()
