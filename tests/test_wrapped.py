"""Points 27 and 28: grids wrapped, their shells, and the round about."""

import unittest

from farshells.errors import NotTogether
from farshells.hanging import hanging_of
from farshells.looking import shells_near
from farshells.ways import way_holds
from farshells.wrapped import round_about, wrapped_shells
from samples import (
    APART, BARE, BARE_FOUR, CHECKERS, CROOKED, HONEYCOMB, KAGOME, KINGS, LINES, LONE_PLACE, OCTAGONS, SQUARES, TOGETHER,
    TRIANGLES, TWO_LAYERS, is_walked, some_grids, texts_of, ties_from,
)
from test_finding import BRICKS

SOME = tuple(some_grids(40, seed=27))
SIZES = tuple((m, n) for m in range(1, 13) for n in range(1, 13))
FEW_SIZES = ((1, 1), (1, 2), (2, 1), (1, 12), (12, 1), (2, 2), (3, 2), (3, 5), (4, 4), (7, 12), (12, 7), (12, 12))


def shells_by_words(grid, start, m, n):
    """Shells of the wrapped grid: each place with the least number of ties, till nothing gets nearer any more."""
    places = [(p, x, y) for p in range(grid[0]) for x in range(m) for y in range(n)]
    beside = {
        place: {(q, u % m, v % n) for q, u, v in ties_from(grid, place)} for place in places
    }
    far = {(start, 0, 0): 0}
    changed = True
    while changed:
        changed = False
        for place in places:
            nearest = min((far[other] + 1 for other in beside[place] if other in far), default=None)
            if nearest is not None and nearest < far.get(place, nearest + 1):
                far[place], changed = nearest, True
    return [list(far.values()).count(number) for number in range(max(far.values()) + 1)]


def round_by_words(grid, m, n):
    """The least number of ties of such a way, by all places that are come to from each place, tie by tie."""
    rims = {p: {(p, 0, 0)} for p in range(grid[0])}
    seen = {p: set(rims[p]) for p in rims}
    ties = 0
    while True:
        ties += 1
        for p in rims:
            rims[p] = {other for place in rims[p] for other in ties_from(grid, place)} - seen[p]
            seen[p] |= rims[p]
        if any(q == p and x % m == 0 and y % n == 0 for p in rims for q, x, y in rims[p]):
            return ties


class Wrapped(unittest.TestCase):
    def test_by_hand(self):
        for grid, start, m, n, shells in (
            (SQUARES, 0, 1, 1, [1]), (SQUARES, 0, 1, 2, [1, 1]), (SQUARES, 0, 2, 2, [1, 2, 1]),
            (SQUARES, 0, 3, 3, [1, 4, 4]), (SQUARES, 0, 4, 4, [1, 4, 6, 4, 1]), (SQUARES, 0, 5, 1, [1, 2, 2]),
            (KINGS, 0, 3, 3, [1, 8]), (KINGS, 0, 4, 4, [1, 8, 7]), (TRIANGLES, 0, 2, 2, [1, 3]),
            (HONEYCOMB, 0, 1, 1, [1, 1]), (HONEYCOMB, 1, 1, 1, [1, 1]), (HONEYCOMB, 0, 2, 2, [1, 3, 3, 1]),
            (KAGOME, 0, 1, 1, [1, 2]), (OCTAGONS, 0, 1, 1, [1, 3]), (BARE, 0, 7, 7, [1]), (BARE_FOUR, 3, 12, 12, [1]),
            (LINES, 0, 5, 6, [1, 2, 2, 1]), (LINES, 0, 12, 1, [1]), (LONE_PLACE, 1, 3, 3, [1]),
            (LONE_PLACE, 0, 3, 3, [1, 4, 4]), (TWO_LAYERS, 1, 2, 2, [1, 2, 1]), (CHECKERS, 0, 4, 4, [1, 4, 3]),
            (CHECKERS, 0, 3, 3, [1, 4, 4]), (SQUARES, 0, 1, 12, [1, 2, 2, 2, 2, 2, 1]),
        ):
            with self.subTest(grid=grid, start=start, m=m, n=n):
                self.assertEqual(wrapped_shells(grid, start, m, n), shells)

    def test_all_sizes(self):
        for grid in (SQUARES, TRIANGLES, CHECKERS, LINES):
            for m, n in SIZES:
                self.assertEqual(wrapped_shells(grid, 0, m, n), shells_by_words(grid, 0, m, n))
        for m, n in SIZES[::5]:
            for grid in (BRICKS, KAGOME, CROOKED):
                for start in range(grid[0]):
                    self.assertEqual(wrapped_shells(grid, start, m, n), shells_by_words(grid, start, m, n))

    def test_drawn_ones(self):
        for at, grid in enumerate(TOGETHER + APART + SOME):
            for m, n in FEW_SIZES[at % 3::3]:
                for start in range(grid[0]):
                    with self.subTest(grid=grid, start=start, m=m, n=n):
                        self.assertEqual(wrapped_shells(grid, start, m, n), shells_by_words(grid, start, m, n))

    def test_all_places_where_it_hangs_together(self):
        for grid in TOGETHER:
            for m, n in FEW_SIZES:
                told = wrapped_shells(grid, 0, m, n)
                self.assertEqual(sum(told), grid[0] * m * n)
                self.assertGreater(min(told), 0)
                self.assertIs(type(told), list)


class Rounds(unittest.TestCase):
    def assertRound(self, grid, m, n):
        ties, way = round_about(grid, m, n)
        with self.subTest(grid=grid, m=m, n=n):
            self.assertIs(type(round_about(grid, m, n)), tuple)
            self.assertEqual((type(ties), type(way)), (int, list))
            self.assertEqual(ties, round_by_words(grid, m, n))
            self.assertEqual(len(way), ties + 1)
            self.assertTrue(is_walked(grid, way))
            self.assertIs(way_holds(grid, way), True)
            (p, x, y), (q, u, v) = way[0], way[-1]
            self.assertEqual((x, y, q, u % m, v % n), (0, 0, p, 0, 0))
            self.assertNotEqual((u, v), (0, 0))

    def test_by_hand(self):
        for grid, m, n, ties in (
            (SQUARES, 1, 1, 1), (SQUARES, 5, 5, 5), (SQUARES, 5, 3, 3), (SQUARES, 3, 5, 3), (SQUARES, 12, 12, 12),
            (KINGS, 4, 7, 4), (KINGS, 12, 12, 12), (TRIANGLES, 2, 2, 2), (HONEYCOMB, 1, 1, 2), (HONEYCOMB, 6, 6, 12),
            (KAGOME, 3, 4, 6), (OCTAGONS, 1, 1, 3), (OCTAGONS, 2, 5, 6), (BRICKS, 12, 1, 2),
        ):
            self.assertEqual(round_about(grid, m, n)[0], ties)
            self.assertRound(grid, m, n)

    def test_some_by_other_places_than_the_first(self):
        # Only place 1 goes on by itself.
        grid = (2, ((0, 1, 0, 0), (1, 1, 0, 1), (1, 1, 1, 0)))
        self.assertEqual(round_about(grid, 2, 3)[0], 2)
        self.assertEqual(round_about(grid, 2, 3)[1][0], (1, 0, 0))
        self.assertRound(grid, 2, 3)

    def test_drawn_ones(self):
        many = 0
        for at, grid in enumerate(TOGETHER + SOME):
            if hanging_of(grid)[0]:
                many += 1
                for m, n in FEW_SIZES if at < len(TOGETHER) else FEW_SIZES[at % 3::3]:
                    self.assertRound(grid, m, n)
        self.assertGreater(many, 20)

    def test_shells_till_half_of_it(self):
        for at, grid in enumerate(TOGETHER + SOME):
            if hanging_of(grid)[0]:
                for m, n in FEW_SIZES[at % 4::4]:
                    ties, way = round_about(grid, m, n)
                    near = min(12, (ties - 1) // 2)
                    for start in range(grid[0]):
                        told = wrapped_shells(grid, start, m, n)
                        self.assertEqual((told + [0] * 13)[:near + 1], shells_near(grid, start, near))

    def test_not_together(self):
        for grid in APART + SOME:
            if not hanging_of(grid)[0]:
                for m, n in FEW_SIZES:
                    self.assertRaises(NotTogether, round_about, grid, m, n)


class Kept(unittest.TestCase):
    def test_told_again_it_is_the_same(self):
        for grid in TOGETHER:
            texts = texts_of((grid,))
            ties, way = round_about(grid, 4, 3)
            kept = list(way)
            way.append("more")
            self.assertEqual(round_about(grid, 4, 3), (ties, kept))
            shells = wrapped_shells(grid, 0, 4, 3)
            kept = list(shells)
            shells.clear()
            self.assertEqual(wrapped_shells(grid, 0, 4, 3), kept)
            self.assertEqual(texts_of((grid,)), texts)


if __name__ == "__main__":
    unittest.main()
