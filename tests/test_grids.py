"""Points 6 and 7: grids, how they are made, their places and neighbours."""

import copy
import itertools
import unittest

from farshells.errors import NoGrid, NoPlace
from farshells.grids import is_grid, is_place, made_grid, neighbours_of
from samples import (
    APART, BARE, BARE_FOUR, HONEYCOMB, KINGS, LONE_PLACE, SQUARES, TOGETHER, all_ties, anything, some_grids, texts_of,
)

THIRTY = 10 ** 30 - 1


def turned(tie):
    a, b, x, y = tie
    return b, a, -x, -y


def tied(grid, one, other):
    """Whether a tie ties the two, by the words of point 6."""
    for a, b, x, y in grid[1]:
        for near, beyond in ((one, other), (other, one)):
            if near[0] == a and beyond == (b, near[1] + x, near[2] + y):
                return True
    return False


def all_beside(grid, place):
    """Every place of the cells around that is tied to the place, rising."""
    p, u, v = place
    cells = itertools.product(range(grid[0]), range(u - 2, u + 3), range(v - 2, v + 3))
    return [other for other in cells if tied(grid, place, other)]


class IsGrid(unittest.TestCase):
    def assertGrid(self, thing, truth):
        with self.subTest(repr(thing)):
            self.assertIs(is_grid(thing), truth)

    def test_grids(self):
        for grid in TOGETHER + APART + tuple(some_grids(100)):
            self.assertGrid(grid, True)

    def test_every_tie_alone(self):
        for places in (1, 2, 3, 4):
            for a, b, x, y in itertools.product(range(-1, 6), range(-1, 6), range(-2, 3), range(-2, 3)):
                tie = (a, b, x, y)
                self.assertEqual(is_grid((places, (tie,))), tie in all_ties(places), (places, tie))

    def test_no_ties_and_sixteen_but_no_seventeenth(self):
        for places in (1, 2, 3, 4):
            self.assertGrid((places, ()), True)
        for places in (2, 3, 4):
            ties = all_ties(places)
            self.assertGrid((places, tuple(ties[:16])), True)
            self.assertGrid((places, tuple(ties[-16:])), True)
            self.assertGrid((places, tuple(ties[:17])), False)
            self.assertGrid((places, tuple(ties)), False)

    def test_how_many_places(self):
        for places in (0, -1, 5, 6, 10 ** 30, True, False, None, "1", (1,), [1]):
            self.assertGrid((places, ()), False)

    def test_ties_out_of_order_and_twice(self):
        self.assertGrid((1, ((0, 0, 1, 0), (0, 0, 0, 1))), False)
        self.assertGrid((1, ((0, 0, 0, 1), (0, 0, 0, 1))), False)
        self.assertGrid((2, ((0, 0, 0, 1), (0, 1, 0, 0), (0, 1, 0, 0))), False)
        self.assertGrid((2, ((0, 0, 0, 1), (0, 1, 0, 1), (0, 1, 0, 0))), False)

    def test_ties_from_the_other_end_and_to_itself(self):
        self.assertGrid((1, ((0, 0, 0, -1),)), False)
        self.assertGrid((1, ((0, 0, -1, 1),)), False)
        self.assertGrid((2, ((1, 0, 0, 0),)), False)
        self.assertGrid((2, ((1, 0, 1, 1),)), False)
        self.assertGrid((1, ((0, 0, 0, 0),)), False)
        self.assertGrid((2, ((1, 1, 0, 0),)), False)

    def test_a_place_or_a_step_beyond(self):
        self.assertGrid((1, ((0, 1, 0, 0),)), False)
        self.assertGrid((4, ((0, 4, 0, 0),)), False)
        self.assertGrid((2, ((-1, 0, 0, 0),)), False)
        self.assertGrid((2, ((0, 1, 2, 0),)), False)
        self.assertGrid((2, ((0, 1, 0, -2),)), False)
        self.assertGrid((1, ((0, 0, 1, 2),)), False)
        self.assertGrid((1, ((0, 0, 0, 10 ** 30),)), False)

    def test_other_kinds_in_the_place_of_numbers_and_tuples(self):
        for wrong in (True, False, None, "0", [], [0], (), {}, b"0"):
            for at in range(4):
                tie = [0, 1, 0, 1]
                tie[at] = wrong
                self.assertGrid((2, (tuple(tie),)), False)
            self.assertGrid((2, (wrong,)), False)
            self.assertGrid((2, ((0, 0, 0, 1), wrong)), False)
        self.assertGrid([1, ()], False)
        self.assertGrid((1, []), False)
        self.assertGrid((1, [(0, 0, 0, 1)]), False)
        self.assertGrid((1, ([0, 0, 0, 1],)), False)
        self.assertGrid((1, {(0, 0, 0, 1): 1}), False)
        self.assertGrid((2, ((0, 0, 1),)), False)
        self.assertGrid((2, ((0, 0, 0, 1, 0),)), False)
        self.assertGrid((1,), False)
        self.assertGrid((1, (), ()), False)

    def test_of_anything(self):
        things = anything()
        before = texts_of(things)
        for thing in things:
            self.assertGrid(thing, False)
            self.assertGrid((1, thing), thing == ())
            self.assertGrid((thing, ()), type(thing) is int and thing == 1)
            self.assertGrid((1, (thing,)), False)
        self.assertEqual(texts_of(things), before)


class MadeGrid(unittest.TestCase):
    def assertNoGrid(self, places, ties):
        with self.subTest(places=repr(places), ties=repr(ties)):
            with self.assertRaises(NoGrid):
                made_grid(places, ties)

    def test_from_either_end_in_any_order_some_twice(self):
        for grid in TOGETHER + APART + tuple(some_grids(100, seed=2)):
            places, ties = grid
            forms = (
                list(ties), ties, list(ties)[::-1], [turned(tie) for tie in ties],
                tuple(turned(tie) if at & 1 else tie for at, tie in enumerate(ties)),
                list(ties) + [turned(tie) for tie in ties[::-1]], (ties + ties + ties)[:50],
            )
            for form in forms:
                with self.subTest(repr(form)):
                    told = made_grid(places, form)
                    self.assertEqual(told, grid)
                    self.assertIs(is_grid(told), True)

    def test_every_tie_from_either_end(self):
        for places in (1, 2, 3, 4):
            for tie in all_ties(places):
                self.assertEqual(made_grid(places, [tie]), (places, (tie,)))
                self.assertEqual(made_grid(places, (turned(tie),)), (places, (tie,)))

    def test_no_ties(self):
        self.assertEqual(made_grid(1, []), BARE)
        self.assertEqual(made_grid(4, ()), BARE_FOUR)

    def test_fifty_ties_of_sixteen_unlike(self):
        ties = all_ties(2)[:16]
        many = ties + [turned(tie) for tie in ties] + ties + ties[:2]
        self.assertEqual(len(many), 50)
        self.assertEqual(made_grid(2, many), (2, tuple(ties)))
        self.assertEqual(made_grid(2, tuple(many)), (2, tuple(ties)))
        self.assertNoGrid(2, many + ties[:1])
        self.assertEqual(made_grid(1, [(0, 0, 0, 1)] * 50), (1, ((0, 0, 0, 1),)))
        self.assertNoGrid(1, [(0, 0, 0, 1)] * 51)

    def test_more_than_sixteen_unlike(self):
        ties = all_ties(2)
        self.assertEqual(len(ties), 17)
        self.assertNoGrid(2, ties)
        self.assertNoGrid(2, ties[::-1] + ties)
        self.assertNoGrid(4, all_ties(4)[:50])

    def test_no_such_number(self):
        for places in anything() + [0, 5, -1, 10 ** 30]:
            if not (type(places) is int and 1 <= places <= 4):
                self.assertNoGrid(places, [])
                self.assertNoGrid(places, [(0, 0, 0, 1)])

    def test_no_such_list(self):
        for ties in anything():
            if ties not in ([], ()):
                self.assertNoGrid(1, ties)
        self.assertNoGrid(1, {(0, 0, 0, 1): 1})
        self.assertNoGrid(1, {(0, 0, 0, 1)})
        self.assertNoGrid(1, iter([(0, 0, 0, 1)]))

    def test_a_tie_that_is_none(self):
        for tie in anything():
            self.assertNoGrid(2, [tie])
            self.assertNoGrid(2, ((0, 1, 0, 0), tie))
        for at in range(4):
            for wrong in (True, False, None, "0", [], (0,), 2, -2, 4, -1 if at < 2 else 3, 10 ** 30):
                for right in ((0, 1, 1, -1), (1, 0, 1, -1)):
                    tie = right[:at] + (wrong,) + right[at + 1:]
                    self.assertNoGrid(2, [tie])
                    self.assertNoGrid(2, [(1, 0, 0, 0), tie])
        self.assertNoGrid(1, [[0, 0, 0, 1]])
        self.assertNoGrid(1, [(0, 0, 1)])
        self.assertNoGrid(1, [(0, 0, 0, 1, 0)])
        self.assertNoGrid(1, [(0, 1, 0, 0)])
        self.assertNoGrid(1, [(1, 0, 0, 0)])

    def test_a_tie_of_a_place_to_itself(self):
        for places in (1, 2, 3, 4):
            for p in range(places):
                self.assertNoGrid(places, [(p, p, 0, 0)])
                self.assertNoGrid(places, all_ties(places)[:3] + [(p, p, 0, 0)])

    def test_what_is_handed_in_stays_and_is_not_kept(self):
        ties = [(1, 0, 1, 0), (0, 0, 0, 1), (0, 1, 0, 0), (0, 0, 0, 1)]
        before = copy.deepcopy(ties)
        told = made_grid(2, ties)
        self.assertEqual(ties, before)
        ties.clear()
        self.assertEqual(told, (2, ((0, 0, 0, 1), (0, 1, -1, 0), (0, 1, 0, 0))))
        self.assertEqual(made_grid(2, before), told)

    def test_what_is_refused_changes_nothing(self):
        ties = [(0, 0, 1, 0), (0, 0, 0, 1), (0, 0, 0, 0)]
        before = copy.deepcopy(ties)
        self.assertNoGrid(1, ties)
        self.assertEqual(ties, before)


class IsPlace(unittest.TestCase):
    def test_places(self):
        numbers = (0, 1, -1, 7, 10 ** 29, -10 ** 29, THIRTY, -THIRTY)
        for grid in TOGETHER + APART:
            for p, x, y in itertools.product(range(-1, 6), numbers, numbers):
                self.assertIs(is_place(grid, (p, x, y)), 0 <= p < grid[0])

    def test_thirty_one_figures(self):
        for large in (10 ** 30, -10 ** 30, 10 ** 31 - 1, 10 ** 60):
            self.assertIs(is_place(SQUARES, (0, large, 0)), False)
            self.assertIs(is_place(SQUARES, (0, 0, large)), False)
            self.assertIs(is_place(SQUARES, (large, 0, 0)), False)

    def test_other_kinds(self):
        for at in range(3):
            for wrong in (True, False, None, "0", "", [], [0], (), (0,), {}, b"0"):
                place = [0, 0, 0]
                place[at] = wrong
                with self.subTest(place):
                    self.assertIs(is_place(HONEYCOMB, tuple(place)), False)
        for thing in ([0, 0, 0], (0, 0), (0,), (), (0, 0, 0, 0), "000", b"000", {0: 0, 1: 1, 2: 2}):
            self.assertIs(is_place(HONEYCOMB, thing), False)

    def test_of_anything(self):
        things = anything()
        before = texts_of(things)
        for thing in things:
            with self.subTest(repr(thing)):
                self.assertIs(is_place(BARE_FOUR, thing), False)
        self.assertEqual(texts_of(things), before)


class NeighboursOf(unittest.TestCase):
    def test_by_hand(self):
        self.assertEqual(neighbours_of(SQUARES, (0, 5, 7)), [(0, 4, 7), (0, 5, 6), (0, 5, 8), (0, 6, 7)])
        self.assertEqual(neighbours_of(HONEYCOMB, (0, 0, 0)), [(1, -1, 0), (1, 0, -1), (1, 0, 0)])
        self.assertEqual(neighbours_of(HONEYCOMB, (1, 0, 0)), [(0, 0, 0), (0, 0, 1), (0, 1, 0)])
        self.assertEqual(len(neighbours_of(KINGS, (0, -3, 3))), 8)

    def test_within_a_cell_and_beside_from_both_ends(self):
        grid = (3, ((0, 0, 1, -1), (0, 1, 0, 0), (0, 2, -1, 1), (1, 2, 0, 0)))
        self.assertEqual(neighbours_of(grid, (0, 2, 2)), [(0, 1, 3), (0, 3, 1), (1, 2, 2), (2, 1, 3)])
        self.assertEqual(neighbours_of(grid, (1, 2, 2)), [(0, 2, 2), (2, 2, 2)])
        self.assertEqual(neighbours_of(grid, (2, 2, 2)), [(0, 3, 1), (1, 2, 2)])

    def test_by_the_words(self):
        for grid in TOGETHER + APART + tuple(some_grids(60, seed=3)):
            for p in range(grid[0]):
                for place in ((p, 0, 0), (p, -4, 9)):
                    told = neighbours_of(grid, place)
                    self.assertEqual(told, all_beside(grid, place))
                    for other in told:
                        self.assertIn(place, neighbours_of(grid, other))

    def test_at_the_end_of_thirty_figures(self):
        self.assertEqual(
            neighbours_of(SQUARES, (0, THIRTY, -THIRTY)),
            [(0, THIRTY - 1, -THIRTY), (0, THIRTY, -THIRTY - 1), (0, THIRTY, -THIRTY + 1), (0, THIRTY + 1, -THIRTY)],
        )

    def test_a_place_without_ties(self):
        self.assertEqual(neighbours_of(BARE, (0, 3, 3)), [])
        self.assertEqual(neighbours_of(LONE_PLACE, (1, 0, 0)), [])

    def test_no_place_of_the_grid(self):
        things = anything() + [
            (1, 0, 0), (-1, 0, 0), (0, THIRTY + 1, 0), (0, 0, -THIRTY - 1), (True, 0, 0), (False, 0, 0),
            (0, True, 0), (0, 0, None), (0, "0", 0), [0, 0, 0], (0, 0), (0, 0, 0, 0), ([], 0, 0),
        ]
        before = texts_of(things)
        for thing in things:
            with self.subTest(repr(thing)):
                with self.assertRaises(NoPlace):
                    neighbours_of(SQUARES, thing)
        self.assertEqual(texts_of(things), before)

    def test_what_is_told_is_the_askers_own(self):
        first = neighbours_of(HONEYCOMB, (0, 0, 0))
        kept = list(first)
        first.clear()
        second = neighbours_of(HONEYCOMB, (0, 0, 0))
        self.assertEqual(second, kept)
        second.append("more")
        self.assertEqual(neighbours_of(HONEYCOMB, (0, 0, 0)), kept)


if __name__ == "__main__":
    unittest.main()
