"""Point 14: rounds."""

import itertools
import unittest

from farshells.rounds import rounds_of
from samples import APART, BARE, BARE_FOUR, HONEYCOMB, KAGOME, KINGS, LINES, SQUARES, TOGETHER, all_ties, some_grids


def steps_between(grid, one, other):
    """The steps of all ties from place one of a cell to place other of a cell."""
    steps = [(x, y) for a, b, x, y in grid[1] if (a, b) == (one, other)]
    return steps + [(-x, -y) for a, b, x, y in grid[1] if (b, a) == (one, other)]


def rounds_by_words(grid):
    """All rounds: each row of unlike places, and each choice of ties from one to the next and back to the first."""
    found = set()
    for many in range(1, grid[0] + 1):
        for row in itertools.permutations(range(grid[0]), many):
            choices = [steps_between(grid, one, other) for one, other in zip(row, row[1:] + row[:1])]
            for steps in itertools.product(*choices):
                x, y = sum(step[0] for step in steps), sum(step[1] for step in steps)
                if (x, y) != (0, 0):
                    found.add((x, y, many))
    return sorted(found)


class Rounds(unittest.TestCase):
    def assertRounds(self, grid):
        with self.subTest(grid):
            told = rounds_of(grid)
            self.assertIs(type(told), list)
            self.assertTrue(all(type(one) is tuple for one in told))
            self.assertEqual(told, rounds_by_words(grid))

    def test_by_hand(self):
        self.assertEqual(rounds_of(SQUARES), [(-1, 0, 1), (0, -1, 1), (0, 1, 1), (1, 0, 1)])
        self.assertEqual(len(rounds_of(KINGS)), 8)
        self.assertEqual(
            rounds_of(HONEYCOMB), [(-1, 0, 2), (-1, 1, 2), (0, -1, 2), (0, 1, 2), (1, -1, 2), (1, 0, 2)]
        )
        self.assertIn((1, 0, 3), rounds_of(KAGOME))
        self.assertIn((1, 0, 2), rounds_of(KAGOME))

    def test_none(self):
        for grid in (BARE, BARE_FOUR, (2, ((0, 1, 1, 1),)), (3, ((0, 1, 0, 0), (0, 2, 0, 0), (1, 2, 0, 0)))):
            self.assertEqual(rounds_of(grid), [])

    def test_a_tie_to_the_same_place_of_a_cell_beside(self):
        for x, y in ((0, 1), (1, -1), (1, 0), (1, 1)):
            self.assertEqual(rounds_of((1, ((0, 0, x, y),))), [(-x, -y, 1), (x, y, 1)])
            self.assertEqual(rounds_of((4, ((2, 2, x, y),))), [(-x, -y, 1), (x, y, 1)])
        self.assertEqual(rounds_of(LINES), [(0, -1, 1), (0, 1, 1)])

    def test_several_ties_between_two_places(self):
        self.assertEqual(rounds_of((2, ((0, 1, -1, -1), (0, 1, 1, 1)))), [(-2, -2, 2), (2, 2, 2)])
        ties = tuple(tie for tie in all_ties(2) if tie[0] != tie[1])
        self.assertEqual(
            rounds_of((2, ties)),
            sorted((x, y, 2) for x in range(-2, 3) for y in range(-2, 3) if (x, y) != (0, 0)),
        )

    def test_a_tie_there_and_back_is_none(self):
        self.assertEqual(rounds_of((2, ((0, 1, 1, 0),))), [])

    def test_no_place_twice_on_the_way(self):
        # Two rounds of two ties at place 0: both together are none.
        grid = (3, ((0, 1, 0, 0), (0, 1, 1, 0), (0, 2, 0, 0), (0, 2, 0, 1)))
        self.assertEqual(rounds_of(grid), [(-1, 0, 2), (0, -1, 2), (0, 1, 2), (1, 0, 2)])
        self.assertEqual(rounds_of((2, ((0, 0, 1, 0), (0, 1, 0, 0), (1, 1, 0, 1)))),
                         [(-1, 0, 1), (0, -1, 1), (0, 1, 1), (1, 0, 1)])

    def test_of_four_places(self):
        grid = (4, ((0, 1, 1, 0), (0, 3, -1, -1), (1, 2, 1, 0), (2, 3, 1, 1)))
        self.assertEqual(rounds_of(grid), [(-4, -2, 4), (4, 2, 4)])

    def test_the_same_step_with_unlike_lengths(self):
        grid = (3, ((0, 0, 1, 0), (0, 1, 0, 0), (0, 2, -1, 0), (1, 2, 0, 0)))
        self.assertEqual(rounds_of(grid), [(-1, 0, 1), (-1, 0, 3), (1, 0, 1), (1, 0, 3)])

    def test_of_grids_that_hang_together_or_not(self):
        for grid in TOGETHER + APART:
            self.assertRounds(grid)

    def test_of_drawn_grids(self):
        for grid in some_grids(150, seed=14):
            self.assertRounds(grid)

    def test_of_sixteen_ties(self):
        for places in (2, 3, 4):
            ties = all_ties(places)
            for step in (1, 2):
                if len(ties) >= 16 * step:
                    self.assertRounds((places, tuple(ties[:16 * step:step])))
                    self.assertRounds((places, tuple(ties[-16 * step::step])))

    def test_rising_each_once(self):
        for grid in some_grids(60, seed=15):
            told = rounds_of(grid)
            self.assertEqual(told, sorted(set(told)))

    def test_what_is_told_is_the_askers_own(self):
        for grid in TOGETHER:
            before = rounds_of(grid)
            told = rounds_of(grid)
            told.clear()
            self.assertEqual(rounds_of(grid), before)


if __name__ == "__main__":
    unittest.main()
