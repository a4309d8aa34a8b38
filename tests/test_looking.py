"""Points 9 and 10: looks and shells."""

import copy
import unittest

from farshells.looking import look_from, look_right, shells_near
from samples import (
    APART, BARE, HONEYCOMB, KAGOME, KINGS, LINES, LONE_PLACE, SQUARES, TOGETHER, TRIANGLES, all_ties, searched,
    some_grids, ties_from,
)

FULL = (4, tuple(all_ties(4)[:16]))
WIDE = (2, tuple(all_ties(2)[:16]))


def look_of(grid, start, n):
    return sorted(searched(grid, start, n).items())


def right_by_the_words(grid, start, n, look):
    """Point 9, clause by clause, of a list of pairs of places of the grid."""
    places = [place for place, _ in look]
    far = dict(look)
    if list(look) != sorted(set(look)) or len(set(places)) < len(places) or far.get((start, 0, 0)) != 0:
        return False
    for place, number in look:
        if not 0 <= place[0] < grid[0]:
            return False
        beside = ties_from(grid, place)
        if place != (start, 0, 0):
            if number <= 0 or number > n or not any(far.get(other) == number - 1 for other in beside):
                return False
        if number < n and not all(other in far and abs(far[other] - number) <= 1 for other in beside):
            return False
    return True


class Looks(unittest.TestCase):
    def test_against_a_search(self):
        for grid in TOGETHER + APART + (FULL, WIDE):
            for start in range(grid[0]):
                far = searched(grid, start, 12)
                for n in range(13):
                    with self.subTest(grid=grid, start=start, n=n):
                        look = sorted((place, number) for place, number in far.items() if number <= n)
                        told = look_from(grid, start, n)
                        self.assertEqual(told, look)
                        self.assertEqual(shells_near(grid, start, n), [
                            sum(1 for _, number in look if number == k) for k in range(n + 1)
                        ])

    def test_some_grids_against_a_search(self):
        for grid in some_grids(60, seed=6):
            for start in range(grid[0]):
                self.assertEqual(look_from(grid, start, 5), look_of(grid, start, 5))
                self.assertEqual(sum(shells_near(grid, start, 5)), len(look_of(grid, start, 5)))

    def test_by_hand(self):
        self.assertEqual(look_from(SQUARES, 0, 0), [((0, 0, 0), 0)])
        self.assertEqual(look_from(SQUARES, 0, 1), [
            ((0, -1, 0), 1), ((0, 0, -1), 1), ((0, 0, 0), 0), ((0, 0, 1), 1), ((0, 1, 0), 1),
        ])
        self.assertEqual(shells_near(SQUARES, 0, 12), [1] + [4 * n for n in range(1, 13)])
        self.assertEqual(shells_near(KINGS, 0, 12), [1] + [8 * n for n in range(1, 13)])
        self.assertEqual(shells_near(TRIANGLES, 0, 12), [1] + [6 * n for n in range(1, 13)])
        self.assertEqual(shells_near(HONEYCOMB, 1, 12), [1] + [3 * n for n in range(1, 13)])

    def test_shells_of_grids_apart(self):
        self.assertEqual(shells_near(BARE, 0, 3), [1, 0, 0, 0])
        self.assertEqual(shells_near(LINES, 0, 3), [1, 2, 2, 2])
        self.assertEqual(shells_near(LONE_PLACE, 1, 2), [1, 0, 0])
        self.assertEqual(look_from(LONE_PLACE, 1, 12), [((1, 0, 0), 0)])

    def test_what_is_told_is_the_askers_own(self):
        for told in (look_from, shells_near):
            first = told(KAGOME, 1, 4)
            kept = copy.deepcopy(first)
            first.clear()
            second = told(KAGOME, 1, 4)
            self.assertEqual(second, kept)
            second[0] = "other"
            self.assertEqual(told(KAGOME, 1, 4), kept)


class LookRight(unittest.TestCase):
    def assertRight(self, grid, start, n, look, truth):
        before = copy.deepcopy(look)
        with self.subTest(grid=grid, start=start, n=n, look=look):
            self.assertIs(look_right(grid, start, n, look), truth)
            self.assertEqual(look, before)

    def test_right_ones(self):
        for grid in TOGETHER + APART + (WIDE,):
            for start in range(grid[0]):
                for n in (0, 1, 2, 5, 12):
                    look = look_of(grid, start, n)
                    self.assertIs(look_right(grid, start, n, look), True)
                    self.assertIs(look_right(grid, start, n, tuple(look)), True)

    def test_what_is_told_is_right(self):
        self.assertEqual(len(look_from(FULL, 0, 12)), len(look_of(FULL, 0, 12)))
        for n in range(13):
            self.assertIs(look_right(FULL, 0, n, look_from(FULL, 0, n)), True)

    def test_of_another_n_or_start(self):
        for grid in TOGETHER:
            for n in (1, 3):
                look = look_of(grid, 0, n)
                self.assertRight(grid, 0, n - 1, look, False)
                self.assertRight(grid, 0, n + 1, look, False)
                for start in range(1, grid[0]):
                    self.assertRight(grid, start, n, look, False)

    def test_nothing_at_all(self):
        for n in (0, 1, 12):
            self.assertRight(BARE, 0, n, [], False)
            self.assertRight(SQUARES, 0, n, (), False)

    def test_not_rising(self):
        for grid in (SQUARES, KAGOME, LINES):
            look = look_of(grid, 0, 2)
            self.assertRight(grid, 0, 2, look[::-1], False)
            for at in range(len(look) - 1):
                self.assertRight(grid, 0, 2, look[:at] + [look[at + 1], look[at]] + look[at + 2:], False)
            for at in range(len(look)):
                self.assertRight(grid, 0, 2, look[:at + 1] + look[at:], False)

    def test_one_left_out(self):
        for grid in (SQUARES, KINGS, HONEYCOMB, LINES):
            look = look_of(grid, 0, 3)
            for at in range(len(look)):
                self.assertRight(grid, 0, 3, look[:at] + look[at + 1:], False)

    def test_one_with_another_number(self):
        for grid in (SQUARES, KINGS, HONEYCOMB, LINES, BARE):
            look = look_of(grid, 0, 3)
            for at, (place, number) in enumerate(look):
                for other in (number - 1, number + 1, number + 2, 0, -1, 3, 4, 10 ** 60):
                    changed = look[:at] + [(place, other)] + look[at + 1:]
                    self.assertRight(grid, 0, 3, changed, other == number)

    def test_a_place_twice(self):
        for grid in (SQUARES, KINGS, HONEYCOMB):
            look = look_of(grid, 0, 3)
            for place, number in look:
                for other in range(-1, 5):
                    if other != number:
                        self.assertRight(grid, 0, 3, sorted(look + [(place, other)]), False)

    def test_a_place_twice_where_the_latter_number_alone_would_not_show(self):
        look = [((0, 0, -1), 1), ((0, 0, 0), -1), ((0, 0, 0), 0), ((0, 0, 1), 1)]
        self.assertRight(LINES, 0, 1, look, False)
        self.assertRight(BARE, 0, 5, [((0, 0, 0), 0), ((0, 0, 0), 1)], False)

    def test_the_start_otherwise(self):
        self.assertRight(BARE, 0, 3, [((0, 0, 0), 1)], False)
        self.assertRight(BARE, 0, 3, [((0, 0, 0), -1)], False)
        self.assertRight(BARE, 0, 3, [((0, 1, 0), 0)], False)
        self.assertRight(LONE_PLACE, 1, 3, [((0, 0, 0), 0)], False)

    def test_another_with_nought_or_less(self):
        self.assertRight(BARE, 0, 3, [((0, 0, 0), 0), ((0, 5, 5), 0)], False)
        self.assertRight(BARE, 0, 0, [((0, 0, 0), 0), ((0, 5, 5), 0)], False)
        near = look_of(SQUARES, 0, 2)
        island = [((p, x + 50, y), number) for (p, x, y), number in near]
        self.assertRight(SQUARES, 0, 2, near, True)
        self.assertRight(SQUARES, 0, 2, near + island, False)
        # A number below each one of these, so that but for one end each has a neighbour with 1 less.
        down = [((0, 50, y), number) for y, number in zip(range(6), (-3, -2, -1, 0, 1, 2))]
        self.assertRight(LINES, 0, 2, look_of(LINES, 0, 2) + down, False)

    def test_more_than_n(self):
        for n in (0, 1, 2):
            look = look_of(SQUARES, 0, n)
            self.assertRight(SQUARES, 0, n, sorted(look + [((0, n + 1, 0), n + 1)]), False)
            self.assertRight(SQUARES, 0, n, look_of(SQUARES, 0, n + 1), False)

    def test_none_beside_with_one_less(self):
        look = look_of(SQUARES, 0, 2)
        self.assertRight(SQUARES, 0, 2, look + [((0, 50, 50), 2)], False)
        self.assertRight(SQUARES, 0, 2, sorted(look + [((0, 3, 0), 2)]), False)
        self.assertRight(BARE, 0, 12, [((0, 0, 0), 0), ((0, 0, 1), 1)], False)

    def test_neighbours_left_out(self):
        self.assertRight(SQUARES, 0, 0, [((0, 0, 0), 0)], True)
        self.assertRight(SQUARES, 0, 1, [((0, 0, 0), 0)], False)
        self.assertRight(SQUARES, 0, 1, look_of(SQUARES, 0, 1), True)
        self.assertRight(SQUARES, 0, 2, look_of(SQUARES, 0, 1), False)

    def test_a_neighbour_that_differs_by_two(self):
        # Beside each other place one with 1 less is left: the start and this one alone don't fit.
        far = searched(KINGS, 0, 2)
        far[(0, 1, 0)] = 2
        self.assertRight(KINGS, 0, 2, sorted(far.items()), False)

    def test_places_that_are_none(self):
        look = look_of(SQUARES, 0, 1)
        for place in ((1, 0, 0), (-1, 0, 0), (10 ** 30, 0, 0), (0, 10 ** 30, 0), (0, 0, -10 ** 60)):
            for number in (0, 1, 2):
                self.assertRight(SQUARES, 0, 1, sorted(look + [(place, number)]), False)
        self.assertRight(BARE, 0, 0, [((0, 0, 0), 0), ((1, 0, 0), 0)], False)

    def test_other_forms_are_not_let_by(self):
        for pair in (
            [(0, 0, 0), 0], ([0, 0, 0], 0), ((0, 0, 0), False), ((0, 0, 0),), ((0, 0, 0), 0, 0), ((0, 0), 0),
            ((0, 0, False), 0), (0, 0, 0), None, 0, ((0, 0, 0), None),
        ):
            self.assertRight(BARE, 0, 1, [pair], False)

    def test_many_changes_by_the_words(self):
        for grid in (LINES, SQUARES, HONEYCOMB) + tuple(some_grids(12, seed=7)):
            for start in range(grid[0]):
                for n in (1, 2):
                    look = look_of(grid, start, n)
                    wide = look_of(grid, start, n + 1)
                    for at in range(min(12, len(look))):
                        for pair in wide[:12]:
                            for changed in (
                                sorted(set(look + [pair])), sorted(set(look[:at] + look[at + 1:] + [pair])),
                                sorted(set(look[:at] + look[at + 1:] + [(pair[0], pair[1] - 1)])),
                            ):
                                self.assertEqual(
                                    look_right(grid, start, n, changed), right_by_the_words(grid, start, n, changed)
                                )

    def test_three_thousand(self):
        look = [((0, 0, y), abs(y)) for y in range(-1500, 1500)]
        self.assertRight(LINES, 0, 12, look, False)
        self.assertRight(LINES, 0, 12, tuple(look), False)


if __name__ == "__main__":
    unittest.main()
