"""Point 13: heights, and how far two places are at least."""

import unittest
from fractions import Fraction

from farshells.heights import far_at_least, height_of, heights_hold
from samples import APART, BARE_FOUR, HONEYCOMB, KAGOME, SQUARES, TOGETHER, searched, some_grids

SIXTY = 10 ** 60 - 1
THIRTY = 10 ** 30 - 1
ROOF = ((SQUARES, (1, 1, (0,), 1)), (HONEYCOMB, (2, 2, (-1, 0), 1)), (KAGOME, (2, 0, (-1, 0, -1), 1)))


def holds_by_words(grid, heights):
    """Whether each clause of point 13 is so of heights of the right form."""
    x, y, marks, bottom = heights
    if len(marks) != grid[0] or bottom < 1:
        return False
    return all(-bottom <= x * u + y * v + marks[b] - marks[a] <= bottom for a, b, u, v in grid[1])


class HeightsHold(unittest.TestCase):
    def assertHold(self, grid, heights, truth):
        with self.subTest(grid=grid, heights=heights):
            self.assertIs(heights_hold(grid, heights), truth)

    def test_by_hand(self):
        for grid, heights in ROOF:
            self.assertHold(grid, heights, True)

    def test_flat_ones_hold(self):
        for grid in TOGETHER + APART:
            for bottom in (1, 2, SIXTY):
                for mark in (0, 5, -7, SIXTY, -SIXTY):
                    self.assertHold(grid, (0, 0, (mark,) * grid[0], bottom), True)

    def test_of_all_small_ones(self):
        held = 0
        for grid in (SQUARES, HONEYCOMB):
            for x in range(-3, 4):
                for y in range(-3, 4):
                    for last in range(-3, 4):
                        for bottom in (1, 2, 3):
                            heights = (x, y, (0,) * (grid[0] - 1) + (last,), bottom)
                            held += holds_by_words(grid, heights)
                            self.assertHold(grid, heights, holds_by_words(grid, heights))
        self.assertGreater(held, 100)

    def test_of_drawn_grids(self):
        for grid in some_grids(60, seed=13):
            for x, y in ((0, 0), (1, 0), (0, -2), (3, 2), (-5, 4)):
                for marks in ((0, 0, 0, 0), (0, 1, 2, 3), (4, -1, 0, -3), (0, 7, 0, 7)):
                    for bottom in range(1, 16):
                        heights = (x, y, marks[:grid[0]], bottom)
                        self.assertHold(grid, heights, holds_by_words(grid, heights))

    def test_marks_one_too_few_or_too_many(self):
        for grid, (x, y, marks, bottom) in ROOF:
            for other in (marks[:-1], marks[1:], marks + (0,), (0,) + marks, marks + marks[-1:], (), marks * 200):
                self.assertHold(grid, (x, y, other, bottom), False)
        self.assertHold(BARE_FOUR, (0, 0, (0,) * 4, 1), True)
        self.assertHold(BARE_FOUR, (0, 0, (0,) * 3, 1), False)
        self.assertHold(BARE_FOUR, (0, 0, (0,) * 5, 1), False)

    def test_a_bottom_below_one(self):
        for grid, (x, y, marks, bottom) in ROOF:
            for other in (0, -1, -2, -SIXTY):
                self.assertHold(grid, (x, y, marks, other), False)
                self.assertHold(grid, (0, 0, (0,) * grid[0], other), False)
        self.assertHold(BARE_FOUR, (0, 0, (0,) * 4, 0), False)
        self.assertHold(BARE_FOUR, (0, 0, (0,) * 4, -1), False)

    def test_a_tie_one_above_or_below_the_bound(self):
        for u, v in ((0, 1), (1, -1), (1, 0), (1, 1)):
            grid = (1, ((0, 0, u, v),))
            for sign in (1, -1):
                self.assertHold(grid, (sign * 7 * u, sign * 7 * v, (0,), 7 * (u * u + v * v)), True)
                self.assertHold(grid, (sign * 7 * u, sign * 7 * v, (0,), 7 * (u * u + v * v) - 1), False)
        grid = (2, ((0, 1, 1, -1),))
        for rise, truth in ((5, True), (-5, True), (6, False), (-6, False), (4, True), (-4, True)):
            self.assertHold(grid, (3, 2, (10, 10 + rise - 1), 5), truth)
            self.assertHold(grid, (3, 2, (1 - rise, 0), 5), truth)

    def test_each_tie_counts(self):
        for grid in TOGETHER:
            for at, (a, b, u, v) in enumerate(grid[1]):
                rises = [abs(2 * c + 3 * d) for _, _, c, d in grid[1]]
                heights = (2, 3, (0,) * grid[0], rises[at])
                if rises[at] > 0:
                    self.assertHold(grid, heights, rises[at] == max(rises))

    def test_sixty_figures_of_either_sign(self):
        for sign in (1, -1):
            large = sign * SIXTY
            self.assertHold(SQUARES, (large, -large, (large,), SIXTY), True)
            self.assertHold(SQUARES, (large, -large, (large,), SIXTY - 1), False)
            self.assertHold(HONEYCOMB, (0, 0, (large, large - sign), 1), True)
            self.assertHold(HONEYCOMB, (0, 0, (large, large - 2 * sign), 1), False)
            self.assertHold(HONEYCOMB, (0, 0, (large, -large), SIXTY), False)
            self.assertHold(HONEYCOMB, (0, 0, (large, 0), SIXTY), True)

    def test_a_truth_in_the_place_of_a_number(self):
        self.assertHold(SQUARES, (1, 1, (1,), 1), True)
        self.assertHold(SQUARES, (0, 0, (0,), 1), True)
        for truth in (True, False):
            for heights in ((truth, 1, (1,), 1), (1, truth, (1,), 1), (1, 1, (truth,), 1), (1, 1, (1,), truth)):
                self.assertHold(SQUARES, heights, False)

    def test_other_forms_are_not_let_by(self):
        for heights in (
            [1, 1, (0,), 1], (1, 1, [0], 1), (1, 1, (0,)), (1, 1, (0,), 1, 1), (), None, 1, ("1", 1, (0,), 1),
            (1, 1, 0, 1), (1, 1, ((0,),), 1), (1, 1, (None,), 1), (1, None, (0,), 1), (1, 1, (0,), None), "11(1",
        ):
            self.assertHold(SQUARES, heights, False)


class HeightOf(unittest.TestCase):
    def test_by_the_words(self):
        for heights in ((1, 1, (0,), 1), (3, -2, (5, -7, 11, 0), 4), (SIXTY, -SIXTY, (SIXTY, -SIXTY), SIXTY)):
            x, y, marks, bottom = heights
            for p, mark in enumerate(marks):
                for u, v in ((0, 0), (1, 0), (0, 1), (-3, 2), (THIRTY, -THIRTY), (-THIRTY, 5)):
                    self.assertEqual(height_of(heights, (p, u, v)), x * u + y * v + mark)

    def test_by_hand(self):
        self.assertEqual(height_of((2, 3, (10, 20), 5), (0, 0, 0)), 10)
        self.assertEqual(height_of((2, 3, (10, 20), 5), (1, 4, -1)), 25)
        self.assertEqual(height_of((2, 3, (10, 20), 5), (0, -4, -1)), -1)

    def test_thirty_figures(self):
        self.assertEqual(height_of((1, 1, (1,), 1), (0, THIRTY, THIRTY)), 2 * THIRTY + 1)


class FarAtLeast(unittest.TestCase):
    def test_rounded_up(self):
        for bottom in (1, 2, 3, 7):
            heights = (1, 0, (0,), bottom)
            for u in range(30):
                for w in (0, 3, -40):
                    one, other = (0, w, 5), (0, w + u, -5)
                    expected = -(Fraction(-u, bottom).__floor__())
                    self.assertEqual(far_at_least(heights, one, other), expected)
                    self.assertEqual(far_at_least(heights, other, one), expected)

    def test_by_hand(self):
        heights = (2, 3, (1, 20), 5)
        self.assertEqual(far_at_least(heights, (0, 0, 0), (0, 0, 0)), 0)
        self.assertEqual(far_at_least(heights, (0, 0, 0), (1, 0, 0)), 4)
        self.assertEqual(far_at_least(heights, (1, 0, 0), (0, 0, 0)), 4)
        self.assertEqual(far_at_least(heights, (0, 5, 0), (0, 0, 0)), 2)
        self.assertEqual(far_at_least(heights, (0, 0, 0), (0, 4, 1)), 3)
        self.assertEqual(far_at_least(heights, (0, 4, 1), (0, 0, 0)), 3)
        self.assertEqual(far_at_least(heights, (0, 3, 0), (0, 0, 2)), 0)

    def test_thirty_figures(self):
        for one, other in (((0, THIRTY, THIRTY), (0, -THIRTY, -THIRTY)), ((0, -THIRTY, 0), (0, THIRTY, 2 * 10 ** 29))):
            u, v = one[1] - other[1], one[2] - other[2]
            self.assertEqual(far_at_least((1, 1, (0,), 1), one, other), abs(u + v))
            self.assertEqual(far_at_least((1, 1, (0,), 1), other, one), abs(u + v))
            self.assertEqual(far_at_least((1, 1, (9,), 7), one, other), (abs(u + v) + 6) // 7)
            self.assertEqual(far_at_least((SIXTY, SIXTY, (0,), SIXTY), one, other), abs(u + v))

    def test_no_more_than_how_far_they_are(self):
        for grid, heights in ROOF:
            for start in range(grid[0]):
                for place, far in searched(grid, start, 7).items():
                    self.assertLessEqual(far_at_least(heights, (start, 0, 0), place), far)

    def test_told_again_it_is_the_same(self):
        one, other, heights = (0, 5, 6), (1, -7, 8), (5, 4, (3, 2), 6)
        first = far_at_least(heights, one, other)
        self.assertEqual(far_at_least(heights, one, other), first)
        self.assertIs(type(first), int)


if __name__ == "__main__":
    unittest.main()
