"""Point 23, with 5 and 15: the growth of a paper of cones, and the area of the shape."""

import math
import unittest
from fractions import Fraction

from farshells.growth import growth_of, shape_area
from farshells.hanging import hanging_of
from farshells.ratios import is_ratio
from farshells.shape import shape_of
from farshells.terms import all_within
from samples import CROOKED, HONEYCOMB, KAGOME, KINGS, OCTAGONS, SQUARES, TOGETHER, TRIANGLES, some_grids, texts_of
from test_finding import BRICKS, found
from test_terms import FOUND, SIXTY, WIDE, terms_by_words

DRAWN = TOGETHER + tuple(grid for grid in some_grids(80, seed=23) if hanging_of(grid)[0])
TURNS = ((0, -1, 1, 0), (-1, 0, 0, -1), (0, 1, -1, 0), (0, 1, 1, 0), (-1, 0, 0, 1))


def ratio(fraction):
    return fraction.numerator, fraction.denominator


def growth_by_words(paper):
    """1 by the product of both steps, of all terms of two, one by one."""
    growth = Fraction(0)
    for (first, steps), many in terms_by_words(paper):
        for _ in range(many if len(steps) == 2 else 0):
            growth += Fraction(1, math.prod(steps))
    return growth


def points_of(corners):
    return [(Fraction(x, length), Fraction(y, length)) for x, y, length in corners]


def area_by_triangles(corners):
    """The area of the figure, as triangles that have its first corner."""
    points = points_of(corners)
    area = Fraction(0)
    for one, other in zip(points[1:], points[2:]):
        (x, y), (u, v) = [(point[0] - points[0][0], point[1] - points[0][1]) for point in (one, other)]
        area += abs(x * v - y * u) / 2
    return area


def turned_grid(grid, turn):
    """The grid with all cells turned about (0, 0), or to the other side."""
    a, b, c, d = turn
    ties = []
    for p, q, x, y in grid[1]:
        x, y = a * x + b * y, c * x + d * y
        ties.append((p, q, x, y) if p < q or (x, y) > (0, 0) else (q, p, -x, -y))
    return grid[0], tuple(sorted(ties))


class Growth(unittest.TestCase):
    def test_known_ones(self):
        for grid, growth in (
            (SQUARES, (4, 1)), (TRIANGLES, (6, 1)), (KINGS, (8, 1)), (BRICKS, (3, 1)), (HONEYCOMB, (3, 1)),
            (KAGOME, (9, 2)), (OCTAGONS, (8, 3)),
        ):
            for start in range(grid[0]):
                self.assertEqual(growth_of(grid, found(grid, start)), growth)

    def test_by_the_words(self):
        bottoms = set()
        for grid, start, paper in FOUND + WIDE:
            told = growth_of(grid, paper)
            with self.subTest(grid=grid, start=start, most=paper[0]):
                self.assertEqual(told, ratio(growth_by_words(paper)))
                self.assertTrue(is_ratio(told))
            bottoms.add(told[1])
        self.assertGreater(len(bottoms), 2)

    def test_twice_the_area_for_each_place(self):
        for grid, start, paper in FOUND + WIDE:
            area = area_by_triangles(shape_of(grid)[0])
            self.assertEqual(growth_of(grid, paper), ratio(2 * grid[0] * area))

    def test_all_within_come_to_it(self):
        for grid, start, paper in FOUND:
            growth = Fraction(*growth_of(grid, paper))
            off = Fraction(2 * all_within(grid, paper, SIXTY), SIXTY * SIXTY) - growth
            self.assertLess(abs(off), Fraction(10 ** 4, SIXTY))

    def test_it_hangs_not_on_the_start(self):
        for grid, start, paper in FOUND:
            if found(grid, 0) is not None:
                self.assertEqual(growth_of(grid, paper), growth_of(grid, found(grid, 0)))


class Areas(unittest.TestCase):
    def test_by_hand(self):
        self.assertEqual(shape_area([(1, 0, 1), (0, 1, 1), (-1, 0, 1), (0, -1, 1)]), (2, 1))
        self.assertEqual(shape_area([(1, 1, 1), (-1, 1, 1), (-1, -1, 1), (1, -1, 1)]), (4, 1))
        self.assertEqual(shape_area([(1, 0, 2), (0, 1, 3), (-1, 0, 2), (0, -1, 3)]), (1, 3))
        for grid, area in (
            (SQUARES, (2, 1)), (TRIANGLES, (3, 1)), (KINGS, (4, 1)), (HONEYCOMB, (3, 4)), (KAGOME, (3, 4)),
            (OCTAGONS, (1, 3)),
        ):
            self.assertEqual(shape_area(shape_of(grid)[0]), area)

    def test_by_triangles(self):
        self.assertGreater(len(DRAWN), 30)
        for grid in DRAWN:
            corners = shape_of(grid)[0]
            with self.subTest(grid):
                self.assertEqual(shape_area(corners), ratio(area_by_triangles(corners)))
                self.assertTrue(is_ratio(shape_area(corners)))

    def test_turned_ones(self):
        for grid in DRAWN:
            area = shape_area(shape_of(grid)[0])
            for turn in TURNS:
                self.assertEqual(shape_area(shape_of(turned_grid(grid, turn))[0]), area)

    def test_begun_elsewhere_or_handed_in_as_a_tuple(self):
        corners = shape_of(CROOKED)[0]
        area = shape_area(corners)
        for at in range(len(corners)):
            self.assertEqual(shape_area(corners[at:] + corners[:at]), area)
            self.assertEqual(shape_area(tuple(corners[at:] + corners[:at])), area)
        self.assertEqual(shape_area(corners[::-1]), area)


class Kept(unittest.TestCase):
    def test_told_again_it_is_the_same(self):
        for grid, start, paper in FOUND[:20]:
            corners = shape_of(grid)[0]
            texts = texts_of((grid, paper, corners))
            told = growth_of(grid, paper), shape_area(corners)
            self.assertEqual((growth_of(grid, paper), shape_area(corners)), told)
            self.assertEqual(texts_of((grid, paper, corners)), texts)


if __name__ == "__main__":
    unittest.main()
