"""Point 26, with 4, 6 and 7: the same grid told otherwise, and what its places become."""

import itertools
import random
import unittest

from farshells.errors import NoGrid
from farshells.grids import is_grid, neighbours_of
from farshells.held import starts_held
from farshells.looking import shells_near
from farshells.otherwise import (
    doubled_grid, doubled_place, moved_grid, moved_place, renamed_grid, renamed_place, sheared_grid, sheared_place,
)
from farshells.terms import all_within, shell_far
from samples import (
    APART, BARE, BARE_FOUR, CROOKED, HONEYCOMB, KAGOME, KINGS, LINES, OCTAGONS, SQUARES, TOGETHER, TRIANGLES, all_ties,
    some_grids, texts_of, ties_from,
)
from test_cones import HANGERS
from test_finding import BRICKS, WALL, found

THIRTY = 10 ** 30 - 1
GRIDS = TOGETHER + APART + (HANGERS, BRICKS, WALL) + tuple(some_grids(60, seed=26))
STEPS = [(x, y) for x in (-1, 0, 1) for y in (-1, 0, 1)]
SHEARS = [(a, b, c, d) for a, b, c, d in itertools.product(range(-2, 3), repeat=4) if abs(a * d - b * c) == 1]
FAR_OFF = (0, 1, -1, 2, -2, 3, -3, 10 ** 20, -10 ** 20 - 1, THIRTY - 1, 1 - THIRTY)


def ways_for(grid, seed=0):
    """(told, becomes) of each way of telling the grid otherwise, some of the shears: functions without a doubt left."""
    chance = random.Random(seed)
    orders = list(itertools.permutations(range(grid[0])))
    for order in chance.sample(orders, min(6, len(orders))):
        yield lambda order=order: renamed_grid(grid, list(order)), lambda place, order=order: (
            (order[place[0]],) + place[1:]
        )
    for p in range(grid[0]):
        for x, y in STEPS:
            yield lambda p=p, x=x, y=y: moved_grid(grid, p, x, y), lambda place, p=p, x=x, y=y: (
                place if place[0] != p else (p, place[1] + x, place[2] + y)
            )
    for a, b, c, d in chance.sample(SHEARS, 20) + [(0, -1, 1, 0), (1, 1, 0, 1), (1, 0, 0, -1)]:
        yield lambda s=(a, b, c, d): sheared_grid(grid, s), lambda place, a=a, b=b, c=c, d=d: (
            place[0], a * place[1] + b * place[2], c * place[1] + d * place[2]
        )
    yield lambda: doubled_grid(grid, 0), lambda place: (
        place[0] if place[1] % 2 == 0 else place[0] + grid[0], (place[1] - place[1] % 2) // 2, place[2]
    )
    yield lambda: doubled_grid(grid, 1), lambda place: (
        place[0] if place[2] % 2 == 0 else place[0] + grid[0], place[1], (place[2] - place[2] % 2) // 2
    )


def told_or_none(tell):
    try:
        return tell()
    except NoGrid:
        return None


def ties_by_words(grid, becomes):
    """All ties of what the grid becomes, each once, from the end that counts, whatever their steps."""
    ties = set()
    for a, b, x, y in grid[1]:
        for u in (0, 1):
            for v in (0, 1):
                one, other = becomes((a, u, v)), becomes((b, u + x, v + y))
                tie = (one[0], other[0], other[1] - one[1], other[2] - one[2])
                turned = (other[0], one[0], one[1] - other[1], one[2] - other[2])
                ties.add(tie if tie[0] < tie[1] or (tie[0] == tie[1] and tie[2:] > (0, 0)) else turned)
    return sorted(ties)


def is_told(places, ties):
    """Whether there is such a grid."""
    return places <= 4 and len(ties) <= 16 and all(max(abs(x), abs(y)) <= 1 for a, b, x, y in ties)


class Otherwise(unittest.TestCase):
    def test_by_the_words_or_refused(self):
        seen = {True: 0, False: 0}
        for grid in GRIDS:
            for tell, becomes in ways_for(grid):
                places = 1 + max(becomes((p, x, y))[0] for p in range(grid[0]) for x in (0, 1) for y in (0, 1))
                ties = ties_by_words(grid, becomes)
                seen[is_told(places, ties)] += 1
                with self.subTest(grid=grid, places=places, ties=ties):
                    if is_told(places, ties):
                        told = tell()
                        self.assertEqual(told, (places, tuple(ties)))
                        self.assertTrue(is_grid(told))
                        self.assertEqual({type(part) for part in told[1]} | {tuple}, {tuple})
                        self.assertEqual(tell(), told)
                    else:
                        self.assertRaises(NoGrid, tell)
        self.assertGreater(min(seen.values()), 300)

    def test_neighbours_become_neighbours(self):
        for grid in GRIDS:
            for tell, becomes in ways_for(grid, seed=1):
                told = told_or_none(tell)
                if told is None:
                    continue
                for p in range(grid[0]):
                    for x, y in ((0, 0), (1, 0), (0, 1), (-1, -1), (2, -3), (-10 ** 20, 10 ** 20 + 1)):
                        beside = [becomes(other) for other in ties_from(grid, (p, x, y))]
                        self.assertEqual(neighbours_of(told, becomes((p, x, y))), sorted(beside))

    def test_shells_near(self):
        for grid in GRIDS:
            for tell, becomes in ways_for(grid, seed=2):
                told = told_or_none(tell)
                if told is not None:
                    for start in range(grid[0]):
                        for cell in ((0, 0), (1, 1)):
                            other = becomes((start,) + cell)[0]
                            self.assertEqual(shells_near(told, other, 5), shells_near(grid, start, 5))

    def test_shells_for_ever(self):
        many = 0
        for grid in (SQUARES, TRIANGLES, KINGS, BRICKS, WALL, HONEYCOMB, KAGOME, OCTAGONS, HANGERS):
            for tell, becomes in ways_for(grid, seed=3):
                told = told_or_none(tell)
                if told is None or told == grid:
                    continue
                start = many % grid[0]
                other = becomes((start, 0, 0))[0]
                if found(told, other) is not None:
                    many += 1
                    self.assertEqual(starts_held(grid, start, told, other)[0], "alike")
                    for n in (50, 10 ** 30 + 1, 10 ** 60):
                        pages = found(grid, start), found(told, other)
                        self.assertEqual(shell_far(grid, pages[0], n), shell_far(told, pages[1], n))
                        self.assertEqual(all_within(grid, pages[0], n), all_within(told, pages[1], n))
        self.assertGreater(many, 80)

    def test_renamed_by_hand(self):
        self.assertEqual(renamed_grid(HANGERS, [1, 0]), (2, ((0, 1, 0, 0), (1, 1, 0, 1), (1, 1, 1, 0))))
        grid = (3, ((0, 1, 1, 0), (1, 2, 0, -1)))
        # 0 becomes 2, 1 becomes 0, 2 becomes 1.
        self.assertEqual(renamed_grid(grid, [2, 0, 1]), (3, ((0, 1, 0, -1), (0, 2, -1, 0))))
        self.assertEqual(renamed_grid(grid, (2, 0, 1)), renamed_grid(grid, [2, 0, 1]))
        for grid in GRIDS:
            self.assertEqual(renamed_grid(grid, list(range(grid[0]))), grid)

    def test_moved_by_hand(self):
        self.assertEqual(moved_grid(HONEYCOMB, 1, 1, 0), (2, ((0, 1, 0, 0), (0, 1, 1, -1), (0, 1, 1, 0))))
        self.assertEqual(moved_grid(HONEYCOMB, 0, -1, 0), (2, ((0, 1, 0, 0), (0, 1, 1, -1), (0, 1, 1, 0))))
        self.assertRaises(NoGrid, moved_grid, HONEYCOMB, 1, -1, 0)
        self.assertRaises(NoGrid, moved_grid, HONEYCOMB, 0, 0, 1)
        for grid in GRIDS:
            for p in range(grid[0]):
                self.assertEqual(moved_grid(grid, p, 0, 0), grid)
        # Ties of a place to the same one of other cells stay.
        for x, y in STEPS:
            self.assertEqual(moved_grid(KINGS, 0, x, y), KINGS)

    def test_sheared_by_hand(self):
        self.assertEqual(sheared_grid(SQUARES, (1, 1, 0, 1)), (1, ((0, 0, 1, 0), (0, 0, 1, 1))))
        self.assertEqual(sheared_grid(TRIANGLES, (0, -1, 1, 0)), (1, ((0, 0, 0, 1), (0, 0, 1, -1), (0, 0, 1, 0))))
        self.assertEqual(sheared_grid(HONEYCOMB, (0, 1, 1, 0)), HONEYCOMB)
        self.assertEqual(sheared_grid(LINES, (2, 1, 1, 1)), (1, ((0, 0, 1, 1),)))
        self.assertRaises(NoGrid, sheared_grid, SQUARES, (2, 1, 1, 1))
        self.assertRaises(NoGrid, sheared_grid, KINGS, (1, 1, 0, 1))
        self.assertRaises(NoGrid, sheared_grid, LINES, (1, 2, 0, 1))
        for shear in SHEARS:
            self.assertEqual(sheared_grid(BARE_FOUR, shear), BARE_FOUR)

    def test_doubled_by_hand(self):
        self.assertEqual(doubled_grid(SQUARES, 0), (2, ((0, 0, 0, 1), (0, 1, -1, 0), (0, 1, 0, 0), (1, 1, 0, 1))))
        self.assertEqual(doubled_grid(SQUARES, 1), (2, ((0, 0, 1, 0), (0, 1, 0, -1), (0, 1, 0, 0), (1, 1, 1, 0))))
        self.assertEqual(doubled_grid(HANGERS, 0), (4, (
            (0, 0, 0, 1), (0, 1, 0, 0), (0, 2, -1, 0), (0, 2, 0, 0), (2, 2, 0, 1), (2, 3, 0, 0),
        )))
        self.assertEqual(doubled_grid(BARE, 0), (2, ()))
        self.assertEqual(doubled_grid((2, ()), 1), (4, ()))

    def test_doubled_beyond(self):
        for way in (0, 1):
            for grid in (KAGOME, OCTAGONS, CROOKED, BARE_FOUR, (3, ())):
                self.assertRaises(NoGrid, doubled_grid, grid, way)
            ties = all_ties(2)
            for many in range(len(ties)):
                grid = (2, tuple(ties[:many]))
                if many <= 8:
                    self.assertEqual(len(doubled_grid(grid, way)[1]), 2 * many)
                else:
                    self.assertRaises(NoGrid, doubled_grid, grid, way)


class Places(unittest.TestCase):
    def places(self, grid):
        for p in range(grid[0]):
            for x in FAR_OFF:
                for y in FAR_OFF:
                    yield p, x, y

    def test_renamed(self):
        for order in itertools.permutations(range(4)):
            for p, x, y in self.places(BARE_FOUR):
                self.assertEqual(renamed_place(list(order), (p, x, y)), (order[p], x, y))
        self.assertEqual(renamed_place((1, 0), (0, 5, -6)), (1, 5, -6))

    def test_moved(self):
        for p in range(3):
            for x, y in STEPS:
                for q, u, v in self.places(KAGOME):
                    moved = (q, u + x, v + y) if q == p else (q, u, v)
                    self.assertEqual(moved_place(p, x, y, (q, u, v)), moved)

    def test_sheared(self):
        for a, b, c, d in SHEARS:
            for p, x, y in ((0, 1, 0), (1, 0, 1), (3, -7, 5), (2, THIRTY, -THIRTY)):
                self.assertEqual(sheared_place((a, b, c, d), (p, x, y)), (p, a * x + b * y, c * x + d * y))

    def test_doubled(self):
        for grid in (SQUARES, HONEYCOMB):
            for p, x, y in self.places(grid):
                one, other = doubled_place(grid, 0, (p, x, y)), doubled_place(grid, 1, (p, x, y))
                self.assertEqual((2 * one[1] + one[0] // grid[0], one[2], one[0] % grid[0]), (x, y, p))
                self.assertEqual((other[1], 2 * other[2] + other[0] // grid[0], other[0] % grid[0]), (x, y, p))
                self.assertLess(max(one[0], other[0]), 2 * grid[0])
        self.assertEqual([doubled_place(HONEYCOMB, 0, (1, x, 7)) for x in (-3, -2, -1, 0, 1, 2)], [
            (3, -2, 7), (1, -1, 7), (3, -1, 7), (1, 0, 7), (3, 0, 7), (1, 1, 7),
        ])
        self.assertEqual([doubled_place(HONEYCOMB, 1, (0, 7, y)) for y in (-3, -2, -1, 0, 1, 2)], [
            (2, 7, -2), (0, 7, -1), (2, 7, -1), (0, 7, 0), (2, 7, 0), (0, 7, 1),
        ])

    def test_they_stand_as_the_grid_told(self):
        chance = random.Random(27)
        for grid in GRIDS:
            p, (x, y), shear = chance.randrange(grid[0]), chance.choice(STEPS), chance.choice(SHEARS)
            order = chance.sample(range(grid[0]), grid[0])
            for tell, becomes in (
                (lambda: renamed_grid(grid, order), lambda place: renamed_place(order, place)),
                (lambda: moved_grid(grid, p, x, y), lambda place: moved_place(p, x, y, place)),
                (lambda: sheared_grid(grid, shear), lambda place: sheared_place(shear, place)),
                (lambda: doubled_grid(grid, 0), lambda place: doubled_place(grid, 0, place)),
                (lambda: doubled_grid(grid, 1), lambda place: doubled_place(grid, 1, place)),
            ):
                told = told_or_none(tell)
                cells = ((0, 0), (-1, 4), (5, -3), (99, 10 ** 28)) if told is not None else ()
                for q in range(grid[0]):
                    for u, v in cells:
                        place = (q, u, v)
                        beside = sorted(becomes(other) for other in neighbours_of(grid, place))
                        self.assertEqual(neighbours_of(told, becomes(place)), beside)


class Kept(unittest.TestCase):
    def test_what_is_handed_in_stays(self):
        for grid in GRIDS:
            order = list(range(grid[0]))[::-1]
            texts = texts_of((grid, order))
            for tell, becomes in ways_for(grid):
                self.assertEqual(told_or_none(tell), told_or_none(tell))
            self.assertEqual(renamed_grid(grid, order), renamed_grid(grid, order))
            self.assertEqual(renamed_place(order, (0, 1, 2)), (order[0], 1, 2))
            self.assertEqual(texts_of((grid, order)), texts)


if __name__ == "__main__":
    unittest.main()
