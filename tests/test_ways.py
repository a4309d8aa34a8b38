"""Points 8 and 10: ways, and a shortest one."""

import copy
import unittest

from farshells.errors import TooFar
from farshells.ways import way_holds, way_to
from samples import (
    APART, BARE, HONEYCOMB, KAGOME, LINES, LONE_PLACE, SQUARES, TOGETHER, is_walked, searched, some_grids, ties_from,
)

THIRTY = 10 ** 30 - 1


class WayHolds(unittest.TestCase):
    def assertHolds(self, grid, way, truth):
        before = copy.deepcopy(way)
        with self.subTest(grid=grid, way=way):
            self.assertIs(way_holds(grid, way), truth)
            self.assertEqual(way, before)

    def test_a_single_place(self):
        for grid in TOGETHER + APART:
            for p in range(grid[0]):
                for x, y in ((0, 0), (-7, 3), (THIRTY, -THIRTY)):
                    self.assertHolds(grid, [(p, x, y)], True)
                    self.assertHolds(grid, ((p, x, y),), True)

    def test_an_empty_list(self):
        self.assertHolds(SQUARES, [], False)
        self.assertHolds(SQUARES, (), False)

    def test_places_that_are_none(self):
        for place in ((1, 0, 0), (-1, 0, 0), (0, THIRTY + 1, 0), (0, 0, -THIRTY - 1), (10 ** 60, 0, 0)):
            self.assertHolds(SQUARES, [place], False)
            self.assertHolds(SQUARES, [(0, 0, 0), place], False)
            self.assertHolds(SQUARES, [place, (0, 0, 0)], False)
        self.assertHolds(HONEYCOMB, [(0, 0, 0), (2, 0, 0)], False)

    def test_each_a_neighbour_of_the_one_ahead(self):
        self.assertHolds(SQUARES, [(0, 0, 0), (0, 0, 1), (0, 0, 0), (0, -1, 0)], True)
        self.assertHolds(SQUARES, ((0, 0, 0), (0, 0, 1), (0, 1, 1)), True)
        self.assertHolds(SQUARES, [(0, 0, 0), (0, 1, 1)], False)
        self.assertHolds(SQUARES, [(0, 0, 0), (0, 0, 0)], False)
        self.assertHolds(SQUARES, [(0, 0, 0), (0, 0, 2)], False)
        self.assertHolds(SQUARES, [(0, 0, 0), (0, 0, 1), (0, 0, 3)], False)
        self.assertHolds(SQUARES, [(0, 5, 5), (0, 0, 0), (0, 0, 1)], False)
        self.assertHolds(HONEYCOMB, [(0, 0, 0), (1, 0, 0), (0, 1, 0), (1, 1, -1)], True)
        self.assertHolds(HONEYCOMB, [(0, 0, 0), (0, 1, 0)], False)
        self.assertHolds(BARE, [(0, 0, 0), (0, 0, 1)], False)

    def test_every_pair_near(self):
        for grid in TOGETHER + tuple(some_grids(20, seed=8)):
            places = [(p, x, y) for p in range(grid[0]) for x in (-2, -1, 0, 1, 2) for y in (-2, -1, 0, 1, 2)]
            for p in range(grid[0]):
                beside = ties_from(grid, (p, 0, 0))
                for other in places:
                    self.assertIs(way_holds(grid, [(p, 0, 0), other]), other in beside)
                    self.assertIs(way_holds(grid, (other, (p, 0, 0))), other in beside)

    def test_thirty_figures_and_thirty_one(self):
        self.assertHolds(SQUARES, [(0, THIRTY - 1, -THIRTY), (0, THIRTY, -THIRTY)], True)
        self.assertHolds(SQUARES, [(0, THIRTY, 0), (0, THIRTY + 1, 0)], False)
        self.assertHolds(SQUARES, [(0, 0, -THIRTY - 1), (0, 0, -THIRTY)], False)

    def test_other_forms_are_not_let_by(self):
        for way in (None, 0, "0", {(0, 0, 0): 1}, [[0, 0, 0]], [(0, 0)], [(0, 0, False)], [None], (0, 0, 0)):
            self.assertHolds(SQUARES, way, False)

    def test_a_long_one(self):
        self.assertHolds(LINES, [(0, 0, y) for y in range(5000)], True)
        self.assertHolds(LINES, [(0, 0, y) for y in range(5000)] + [(0, 0, 5001)], False)


class WayTo(unittest.TestCase):
    def test_to_the_start_itself(self):
        for grid in TOGETHER + APART:
            for start in range(grid[0]):
                self.assertEqual(way_to(grid, start, (start, 0, 0)), [(start, 0, 0)])

    def test_to_each_place_of_a_look(self):
        for grid in TOGETHER + APART + tuple(some_grids(20, seed=10)):
            for start in range(grid[0]):
                for place, number in searched(grid, start, 4).items():
                    way = way_to(grid, start, place)
                    self.assertIs(type(way), list)
                    self.assertEqual((way[0], way[-1], len(way) - 1), ((start, 0, 0), place, number))
                    self.assertTrue(is_walked(grid, way))

    def test_just_twelve_and_just_thirteen(self):
        for grid in TOGETHER:
            far = searched(grid, 0, 13)
            for number in (12, 13):
                at = [place for place in sorted(far) if far[place] == number]
                for place in (at[0], at[len(at) // 2], at[-1]):
                    with self.subTest(grid=grid, place=place):
                        if number == 12:
                            way = way_to(grid, 0, place)
                            self.assertEqual((way[0], way[-1], len(way)), ((0, 0, 0), place, 13))
                            self.assertTrue(is_walked(grid, way))
                        else:
                            with self.assertRaises(TooFar):
                                way_to(grid, 0, place)

    def test_far_off_and_where_no_way_leads(self):
        asked = (
            (SQUARES, 0, (0, THIRTY, THIRTY)), (SQUARES, 0, (0, 0, -100)), (KAGOME, 2, (1, -THIRTY, 5)),
            (BARE, 0, (0, 0, 1)), (LINES, 0, (0, 1, 0)), (LONE_PLACE, 0, (1, 0, 0)), (LONE_PLACE, 1, (0, 0, 0)),
            (LONE_PLACE, 1, (1, 0, 1)),
        )
        for grid, start, place in asked:
            with self.subTest(grid=grid, start=start, place=place):
                with self.assertRaises(TooFar):
                    way_to(grid, start, place)

    def test_what_is_told_is_the_askers_own(self):
        first = way_to(SQUARES, 0, (0, 3, -4))
        kept = list(first)
        first.clear()
        second = way_to(SQUARES, 0, (0, 3, -4))
        self.assertEqual(second, kept)
        second.append("more")
        self.assertEqual(way_to(SQUARES, 0, (0, 3, -4)), kept)


if __name__ == "__main__":
    unittest.main()
