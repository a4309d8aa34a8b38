"""Point 22, with 4: the period and the row of a paper of cones, and its shells for ever."""

import math
import random
import unittest

from farshells.cones import cones_hold
from farshells.errors import TooMany
from farshells.rows import row_of, row_period, row_shell
from farshells.terms import paper_terms, shell_far
from samples import HONEYCOMB, KAGOME, KINGS, OCTAGONS, SQUARES, TRIANGLES, texts_of
from test_cones import UNEVEN, lone_cone, paper_of
from test_finding import BRICKS, found
from test_terms import FOUND, SIXTY, WIDE, searched_shells

# Squares told with two places to a cell: it takes two ties to come a cell on to the right.
PAIRS = (2, ((0, 0, 0, 1), (0, 1, 0, 0), (0, 1, -1, 0), (1, 1, 0, 1)))


def pairs_paper(ties):
    """A paper of PAIRS whose rays have 2, 125, 1, so many and 1 ties, so many being even."""
    rays = (((1, 0), 2), ((50, 25), 125), ((0, 1), 1), ((-ties // 2, 0), ties), ((0, -1), 1))
    return paper_of(PAIRS, 0, rays, 1)


LONGEST = pairs_paper(16)
TOO_LONG = pairs_paper(18)


def with_ties(*ties):
    """A paper with rays of so many ties each, of squares, that needn't hold."""
    steps = ((1, 0), (1, 1), (0, 1), (-1, 0), (-1, -1), (0, -1))
    rays = tuple(zip(steps, ties + (1,) * (len(steps) - len(ties))))
    return 0, rays, (0,), (lone_cone(1),) * len(rays)


def last_shells(grid, paper):
    """How many shells a search must count to see that the row goes on for good."""
    return max(first for (first, steps), many in paper_terms(grid, paper)) + 2 * row_period(paper) + 1


class Periods(unittest.TestCase):
    def test_known_ones(self):
        for grid, period in (
            (SQUARES, 1), (TRIANGLES, 1), (KINGS, 1), (BRICKS, 2), (HONEYCOMB, 2), (KAGOME, 2), (OCTAGONS, 12),
        ):
            for start in range(grid[0]):
                self.assertEqual(row_period(found(grid, start)), period)

    def test_the_least_common_multiple(self):
        for grid, start, paper in FOUND + WIDE:
            self.assertEqual(row_period(paper), math.lcm(*[ties for step, ties in paper[1]]))
        self.assertEqual(row_period(paper_of(SQUARES, 0, UNEVEN, 1)), 12)
        for ties, period in (
            ((1,), 1), ((7,), 7), ((4, 6), 12), ((6, 4), 12), ((6, 10, 15), 30), ((8, 4, 2), 8), ((200, 100), 200),
            ((9, 10, 12), 180), ((1, 1, 1, 1, 1, 13), 13),
        ):
            self.assertEqual(row_period(with_ties(*ties)), period)

    def test_too_many(self):
        for ties in ((16, 125), (80, 125, 200), (125, 1, 1, 1, 1, 16)):
            self.assertEqual(row_period(with_ties(*ties)), 2000)
        for ties in ((3, 23, 29), (16, 127), (143, 15), (199, 200), (197, 199, 193), (125, 1, 1, 1, 1, 18)):
            self.assertGreater(math.lcm(*ties), 2000)
            self.assertRaises(TooMany, row_period, with_ties(*ties))
        self.assertEqual(math.lcm(3, 23, 29), 2001)
        self.assertEqual(row_period(with_ties(37, 27, 2)), 1998)


class Rows(unittest.TestCase):
    def assertRow(self, grid, start, paper):
        """All that point 22 says of the row told, by shells that a search counts."""
        row = row_of(grid, paper)
        shells, rises = row
        period = math.lcm(*[ties for step, ties in paper[1]])
        counted = searched_shells(grid, start, max(last_shells(grid, paper), len(shells) + period))
        self.assertEqual([type(part) for part in (row, shells, rises)], [tuple] * 3)
        self.assertTrue(all(type(number) is int for number in shells + rises))
        self.assertEqual(len(rises), period)
        self.assertGreaterEqual(len(shells), period)
        self.assertEqual(shells, counted[:len(shells)])
        for n in range(len(shells), len(counted)):
            self.assertEqual(counted[n], counted[n - period] + rises[n % period])
        if len(shells) > period:
            n = len(shells) - 1
            self.assertNotEqual(counted[n], counted[n - period] + rises[n % period])

    def test_by_hand(self):
        for grid, row in (
            (SQUARES, ((1, 4), (4,))), (TRIANGLES, ((1, 6), (6,))), (KINGS, ((1, 8), (8,))),
            (BRICKS, ((1, 3, 6), (6, 6))), (HONEYCOMB, ((1, 3, 6), (6, 6))), (KAGOME, ((1, 4, 8, 14), (10, 8))),
        ):
            for start in range(grid[0]):
                self.assertEqual(row_of(grid, found(grid, start)), row)
        # A paper with longer rays than need be has a longer period, and as many shells as that.
        paper = paper_of(SQUARES, 0, UNEVEN, 0)
        self.assertEqual(row_of(SQUARES, paper), ((1,) + tuple(range(4, 52, 4)), (48,) * 12))

    def test_as_a_search_counts(self):
        many = 0
        for grid, start, paper in FOUND + WIDE:
            if last_shells(grid, paper) <= 60:
                many += 1
                with self.subTest(grid=grid, start=start, most=paper[0]):
                    self.assertRow(grid, start, paper)
        self.assertGreater(many, 60)

    def test_as_few_as_the_period(self):
        # Wider rays than need be: only shell 0 goes not on by the period, and it is among the first of these.
        lengths = {len(row_of(grid, paper)[0]) - row_period(paper) for grid, start, paper in FOUND + WIDE}
        self.assertGreater(len(lengths), 3)
        self.assertGreaterEqual(min(lengths), 0)

    def test_wider_tables_have_the_same_row(self):
        for grid, start, paper in WIDE:
            narrow = found(grid, start)
            if row_period(paper) == row_period(narrow):
                self.assertEqual(row_of(grid, paper), row_of(grid, narrow))

    def test_the_longest_period(self):
        self.assertIs(cones_hold(PAIRS, 0, LONGEST), True)
        self.assertEqual(row_period(LONGEST), 2000)
        # They are squares, told otherwise.
        shells, rises = row_of(PAIRS, LONGEST)
        self.assertEqual(rises, (8000,) * 2000)
        self.assertEqual(shells, (1,) + tuple(range(4, 8004, 4)))
        self.assertEqual(row_shell((shells, rises), SIXTY), 4 * SIXTY)

    def test_too_many(self):
        self.assertIs(cones_hold(PAIRS, 0, TOO_LONG), True)
        self.assertRaises(TooMany, row_period, TOO_LONG)
        self.assertRaises(TooMany, row_of, PAIRS, TOO_LONG)


class RowShells(unittest.TestCase):
    def test_by_hand(self):
        row = ((5, -3, 10 ** 70, 0, 9), (2, -7))
        told = [5, -3, 10 ** 70, 0, 9, -7, 11, -14, 13, -21, 15]
        self.assertEqual([row_shell(row, n) for n in range(11)], told)
        self.assertEqual(row_shell(row, 2 * 10 ** 59 + 4), 9 + 2 * 10 ** 59)
        self.assertEqual(row_shell(row, 2 * 10 ** 59 + 3), -7 * 10 ** 59)
        self.assertEqual([row_shell(((3,), (0,)), n) for n in (0, 1, 2, SIXTY)], [3] * 4)
        self.assertEqual([row_shell(((3, 1, 2), (1, 2, 3)), n) for n in range(9)], [3, 1, 2, 4, 3, 5, 5, 5, 8])

    def test_by_going_on(self):
        chance = random.Random(22)
        for _ in range(60):
            period = chance.randint(1, 7)
            shells = [chance.randint(-9, 9) for _ in range(period + chance.randint(0, 9))]
            rises = [chance.randint(-9, 9) for _ in range(period)]
            row = (tuple(shells), tuple(rises))
            while len(shells) < 60:
                shells.append(shells[-period] + rises[len(shells) % period])
            self.assertEqual([row_shell(row, n) for n in range(60)], shells)

    def test_as_the_terms_tell(self):
        for grid, start, paper in FOUND + WIDE:
            row = row_of(grid, paper)
            told, period = len(row[0]), len(row[1])
            some = [0, told - 1, told, told + 1, told + period - 1, told + period, told + 3 * period + 1]
            for n in some + [10 ** 20 + 7, SIXTY - period, SIXTY - 1, SIXTY]:
                with self.subTest(grid=grid, start=start, most=paper[0], n=n):
                    self.assertEqual(row_shell(row, n), shell_far(grid, paper, n))

    def test_a_search_of_the_octagons(self):
        row = row_of(OCTAGONS, found(OCTAGONS, 0))
        self.assertEqual(tuple(row_shell(row, n) for n in range(61)), searched_shells(OCTAGONS, 0, 60))


class Kept(unittest.TestCase):
    def test_told_again_it_is_the_same(self):
        for grid, start, paper in FOUND[:20] + WIDE:
            texts = texts_of((grid, paper))
            row = row_of(grid, paper)
            self.assertEqual((row_of(grid, paper), row_period(paper)), (row, len(row[1])))
            told = texts_of(row)
            self.assertEqual(row_shell(row, 1000), row_shell(row, 1000))
            self.assertEqual(texts_of(row), told)
            self.assertEqual(texts_of((grid, paper)), texts)


if __name__ == "__main__":
    unittest.main()
