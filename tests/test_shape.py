"""Points 15 and 16: the shape of the far ones, and the rays."""

import copy
import functools
import math
import unittest
from fractions import Fraction

from farshells.errors import NotTogether
from farshells.hanging import hanging_of
from farshells.shape import rays_of, shape_of, shape_right
from samples import (
    APART, CROOKED, HONEYCOMB, KAGOME, KINGS, OCTAGONS, SQUARES, TOGETHER, TRIANGLES, TWO_LAYERS, is_walked, some_grids,
)
from test_heights import holds_by_words
from test_rounds import rounds_by_words

SOME = tuple(grid for grid in some_grids(140, seed=16) if hanging_of(grid)[0])
# Rounds of one tie and of two go equally fast to the right, and of one and of three upwards.
UNLIKE = (4, (
    (0, 0, 0, 1), (0, 0, 1, 0), (0, 1, -1, 0), (0, 1, 1, 0), (0, 2, 0, 1), (0, 3, 0, -1), (2, 3, 0, 1),
))
# The fastest rounds to the right have two and three ties, none has one.
TWO_AND_THREE = (4, (
    (0, 1, -1, 0), (0, 1, 1, 0), (0, 3, 0, 0), (1, 2, 1, 0), (1, 3, -1, 0), (2, 3, 1, 0), (3, 3, 0, 1),
))


def point_of(one):
    return Fraction(one[0], one[2]), Fraction(one[1], one[2])


def bend(one, two, three):
    """Above 0 where three points turn to the left."""
    return (two[0] - one[0]) * (three[1] - one[1]) - (two[1] - one[1]) * (three[0] - one[0])


def hull_of(points):
    """The corners of the least convex figure with all points, by two chains from left to right and back."""
    def chain(row):
        kept = []
        for point in row:
            while len(kept) > 1 and bend(kept[-2], kept[-1], point) <= 0:
                kept.pop()
            kept.append(point)
        return kept[:-1]
    points = sorted(set(points))
    return chain(points) + chain(points[::-1])


def angle_of(step):
    return math.atan2(step[1], step[0]) % (2 * math.pi)


@functools.cache
def corners_found(grid):
    rounds = rounds_by_words(grid)
    hull = hull_of([point_of(one) for one in rounds])
    shortest = [min((one for one in rounds if point_of(one) == point), key=lambda one: one[2]) for point in hull]
    return tuple(sorted(shortest, key=angle_of))


def corners_by_words(grid):
    return list(corners_found(grid))


def is_round(grid, way):
    """Whether it is a round by the words of point 14."""
    if not is_walked(grid, way) or way[0][1:] != (0, 0) or way[-1][0] != way[0][0] or way[-1] == way[0]:
        return False
    firsts = [place[0] for place in way[:-1]]
    return len(set(firsts)) == len(firsts)


def meets(heights, corner):
    return heights[0] * corner[0] + heights[1] * corner[1] == heights[3] * corner[2]


def right_by_words(grid, told):
    """Whether all of point 15 is so of something of the right form."""
    corners, ways, sides = [list(part) for part in told]
    if corners != corners_by_words(grid) or not len(corners) == len(ways) == len(sides):
        return False
    for way, (x, y, length) in zip(ways, corners):
        if not is_round(grid, way) or way[-1][1:] != (x, y) or len(way) - 1 != length:
            return False
    for side, one, other in zip(sides, corners, corners[1:] + corners[:1]):
        if not (holds_by_words(grid, side) and meets(side, one) and meets(side, other)):
            return False
    return True


def rays_by_words(grid):
    rounds = rounds_by_words(grid)
    hull = hull_of([point_of(one) for one in rounds])
    sides = list(zip(hull, hull[1:] + hull[:1]))
    rim = [one for one in rounds if any(bend(a, b, point_of(one)) == 0 for a, b in sides)]
    rays = {}
    for x, y, length in rim:
        least = (x // math.gcd(x, y), y // math.gcd(x, y))
        same = [one for one in rim if (one[0] // math.gcd(*one[:2]), one[1] // math.gcd(*one[:2])) == least]
        times = 1
        while any(times % math.gcd(*one[:2]) for one in same):
            times += 1
        step = (least[0] * times, least[1] * times)
        rays[step] = length * times // math.gcd(x, y)
    return tuple((step, rays[step]) for step in sorted(rays, key=angle_of))


def put(parts, at, part):
    return parts[:at] + [part] + parts[at + 1:]


def changed_numbers(row):
    """A tuple of numbers with one of them one more or less, or turned."""
    for at, number in enumerate(row):
        for other in {number - 1, number + 1, -number, number * 2, 0} - {number}:
            yield row[:at] + (other,) + row[at + 1:]


def changed_corners(told):
    corners, ways, sides = told
    for at, corner in enumerate(corners):
        for other in changed_numbers(corner):
            yield put(corners, at, other), ways, sides
        for times in (2, 3, -1, 0):
            yield put(corners, at, tuple(times * number for number in corner)), ways, sides
        # The corner out, alone or with what goes with it; twice; exchanged with the next one.
        yield corners[:at] + corners[at + 1:], ways, sides
        yield corners[:at] + corners[at + 1:], ways[:at] + ways[at + 1:], sides
        yield tuple(part[:at] + part[at + 1:] for part in told)
        yield corners[:at] + corners[at:at + 1] + corners[at:], ways, sides
        yield tuple(part[:at] + part[at:at + 1] + part[at:] for part in told)
        turned = list(corners)
        turned[at], turned[at - 1] = turned[at - 1], turned[at]
        yield turned, ways, sides
        turned_ways = list(ways)
        turned_ways[at], turned_ways[at - 1] = turned_ways[at - 1], turned_ways[at]
        yield turned, turned_ways, sides
        # All of it from another corner on, or the other way round.
        yield tuple(part[at:] + part[:at] for part in told)
        yield corners[at::-1] + corners[:at:-1], ways[at::-1] + ways[:at:-1], sides[at::-1] + sides[:at:-1]
        yield (
            corners[at::-1] + corners[:at:-1], ways[at::-1] + ways[:at:-1],
            (sides[at::-1] + sides[:at:-1])[1:] + sides[at:at + 1],
        )
    yield tuple(part + part for part in told)
    yield [], [], []
    for few in (1, 2):
        yield tuple(part[:few] for part in told)


def changed_ways(told):
    corners, ways, sides = told
    for at, way in enumerate(ways):
        for step, place in enumerate(way):
            for other in changed_numbers(place):
                yield corners, put(ways, at, put(way, step, other)), sides
            yield corners, put(ways, at, way[:step] + way[step + 1:]), sides
            yield corners, put(ways, at, way[:step] + [place] + way[step:]), sides
        yield corners, put(ways, at, way[::-1]), sides
        yield corners, put(ways, at, []), sides
        yield corners, put(ways, at, way + way[-2:-1] + way[-1:]), sides
        yield corners, put(ways, at, [(p, x + 1, y) for p, x, y in way]), sides
        yield corners, put(ways, at, [(p, x, y - 1) for p, x, y in way]), sides
        yield corners, put(ways, at, [(p, x - way[-1][1], y - way[-1][2]) for p, x, y in way]), sides
        yield corners, put(ways, at, ways[at - 1]), sides
        yield corners, ways[:at] + ways[at + 1:], sides
        yield corners, ways[:at] + ways[at:at + 1] + ways[at:], sides
    yield corners, [], sides


def changed_sides(told):
    corners, ways, sides = told
    for at, (x, y, marks, bottom) in enumerate(sides):
        for a, b, c in changed_numbers((x, y, bottom)):
            yield corners, ways, put(sides, at, (a, b, marks, c))
        for other in changed_numbers(marks):
            yield corners, ways, put(sides, at, (x, y, other, bottom))
        for other in (marks[:-1], marks + (0,), marks + marks[-1:], (), tuple(mark + 7 for mark in marks)):
            yield corners, ways, put(sides, at, (x, y, other, bottom))
        for times in (2, 5, 10 ** 50, -1, 0):
            scaled = tuple(times * mark for mark in marks)
            yield corners, ways, put(sides, at, (times * x, times * y, scaled, times * bottom))
            yield corners, ways, put(sides, at, (times * x, times * y, scaled, bottom))
        yield corners, ways, put(sides, at, sides[at - 1])
        yield corners, ways, sides[:at] + sides[at + 1:]
        yield corners, ways, sides[:at] + sides[at:at + 1] + sides[at:]
    yield corners, ways, []


class ShapeOf(unittest.TestCase):
    def test_by_hand(self):
        self.assertEqual(shape_of(SQUARES)[0], [(1, 0, 1), (0, 1, 1), (-1, 0, 1), (0, -1, 1)])
        self.assertEqual(shape_of(KINGS)[0], [(1, 1, 1), (-1, 1, 1), (-1, -1, 1), (1, -1, 1)])
        self.assertEqual(
            shape_of(TRIANGLES)[0], [(1, 0, 1), (1, 1, 1), (0, 1, 1), (-1, 0, 1), (-1, -1, 1), (0, -1, 1)]
        )
        self.assertEqual(
            shape_of(HONEYCOMB)[0], [(1, 0, 2), (0, 1, 2), (-1, 1, 2), (-1, 0, 2), (0, -1, 2), (1, -1, 2)]
        )
        self.assertEqual(shape_of(KAGOME)[0], shape_of(HONEYCOMB)[0])
        self.assertEqual(
            shape_of(OCTAGONS)[0],
            [(1, 0, 3), (1, 1, 4), (0, 1, 3), (-1, 1, 4), (-1, 0, 3), (-1, -1, 4), (0, -1, 3), (1, -1, 4)],
        )
        self.assertEqual(shape_of(SQUARES)[1][0], [(0, 0, 0), (0, 1, 0)])

    def test_its_form(self):
        for grid in TOGETHER:
            told = shape_of(grid)
            self.assertIs(type(told), tuple)
            self.assertEqual([type(part) for part in told], [list, list, list])
            self.assertTrue(all(type(way) is list for way in told[1]))
            self.assertTrue(all(type(one) is tuple for one in told[0] + told[2]))
            self.assertTrue(all(type(place) is tuple for way in told[1] for place in way))

    def test_corners(self):
        self.assertGreater(len(SOME), 60)
        for grid in TOGETHER + SOME + (UNLIKE, TWO_AND_THREE):
            with self.subTest(grid):
                self.assertEqual(shape_of(grid)[0], corners_by_words(grid))

    def test_each_is_the_shortest_round_with_its_point(self):
        self.assertIn((2, 0, 2), rounds_by_words(UNLIKE))
        self.assertIn((0, 3, 3), rounds_by_words(UNLIKE))
        self.assertEqual(shape_of(UNLIKE)[0], [(1, 0, 1), (0, 1, 1), (-1, 0, 1), (0, -1, 1)])
        self.assertIn((3, 0, 3), rounds_by_words(TWO_AND_THREE))
        self.assertEqual(shape_of(TWO_AND_THREE)[0][0], (2, 0, 2))

    def test_ways_and_heights(self):
        for grid in TOGETHER + SOME + (UNLIKE, TWO_AND_THREE):
            corners, ways, sides = shape_of(grid)
            with self.subTest(grid):
                self.assertEqual(len(ways), len(corners))
                self.assertEqual(len(sides), len(corners))
                for way, (x, y, length) in zip(ways, corners):
                    self.assertTrue(is_round(grid, way))
                    self.assertEqual((*way[-1][1:], len(way) - 1), (x, y, length))
                for heights, one, other in zip(sides, corners, corners[1:] + corners[:1]):
                    self.assertTrue(holds_by_words(grid, heights))
                    self.assertTrue(meets(heights, one) and meets(heights, other))

    def test_not_together(self):
        for grid in APART + tuple(grid for grid in some_grids(60, seed=16) if not hanging_of(grid)[0]):
            with self.subTest(grid):
                self.assertRaises(NotTogether, shape_of, grid)
                self.assertRaises(NotTogether, rays_of, grid)

    def test_what_is_told_is_the_askers_own(self):
        for grid in TOGETHER:
            before = copy.deepcopy(shape_of(grid))
            told = shape_of(grid)
            lists = [*told, *told[1]]
            self.assertEqual(len({id(one) for one in lists}), len(lists))
            for one in lists:
                one.clear()
            self.assertEqual(shape_of(grid), before)
            self.assertIs(shape_right(grid, before), True)


class ShapeRight(unittest.TestCase):
    def assertRight(self, grid, told, truth):
        before = copy.deepcopy(told)
        with self.subTest(grid=grid, told=told):
            self.assertIs(shape_right(grid, told), truth)
            self.assertEqual(told, before)

    def test_what_is_told(self):
        for grid in TOGETHER + SOME + (UNLIKE, TWO_AND_THREE):
            self.assertRight(grid, shape_of(grid), True)

    def test_tuples_in_the_place_of_lists(self):
        for grid in TOGETHER:
            corners, ways, sides = shape_of(grid)
            tuples = tuple(tuple(way) for way in ways)
            self.assertRight(grid, (tuple(corners), ways, sides), True)
            self.assertRight(grid, (corners, tuples, sides), True)
            self.assertRight(grid, (corners, list(tuples), tuple(sides)), True)
            self.assertRight(grid, (tuple(corners), tuples, tuple(sides)), True)
            self.assertRight(grid, (tuple(corners[1:]), tuples[1:], tuple(sides[1:])), False)

    def test_lists_in_the_place_of_tuples_are_not_let_by(self):
        corners, ways, sides = shape_of(SQUARES)
        self.assertRight(SQUARES, [corners, ways, sides], False)
        self.assertRight(SQUARES, ([list(one) for one in corners], ways, sides), False)
        self.assertRight(SQUARES, (corners, [[list(place) for place in way] for way in ways], sides), False)
        self.assertRight(SQUARES, (corners, ways, [list(one) for one in sides]), False)
        self.assertRight(SQUARES, (corners, ways, [(x, y, list(m), b) for x, y, m, b in sides]), False)

    def test_one_thing_changed(self):
        for grid in TOGETHER + SOME[:12] + (UNLIKE,):
            told = shape_of(grid)
            counts = {True: 0, False: 0}
            for changes in (changed_corners, changed_ways, changed_sides):
                for other in changes(told):
                    truth = right_by_words(grid, other)
                    counts[truth] += 1
                    self.assertRight(grid, other, truth)
            self.assertGreater(counts[True], 10)
            self.assertGreater(counts[False], 100)

    def test_corners_changed_are_never_right(self):
        for grid in TOGETHER:
            told = shape_of(grid)
            for other in changed_corners(told):
                if other[0] != told[0]:
                    self.assertRight(grid, other, False)

    def test_a_longer_round_with_the_same_point(self):
        corners, ways, sides = shape_of(UNLIKE)
        longer = [(0, 0, 0), (1, 1, 0), (0, 2, 0)]
        self.assertRight(UNLIKE, (put(corners, 0, (2, 0, 2)), put(ways, 0, longer), sides), False)
        longer = [(0, 0, 0), (2, 0, 1), (3, 0, 2), (0, 0, 3)]
        self.assertTrue(is_round(UNLIKE, longer))
        self.assertRight(UNLIKE, (put(corners, 1, (0, 3, 3)), put(ways, 1, longer), sides), False)

    def test_a_longer_way_that_is_no_round(self):
        corners, ways, sides = shape_of(SQUARES)
        twice = [(0, 0, 0), (0, 1, 0), (0, 2, 0)]
        self.assertRight(SQUARES, (put(corners, 0, (2, 0, 2)), put(ways, 0, twice), sides), False)

    def test_a_point_on_a_side_that_is_no_corner(self):
        corners, ways, sides = shape_of(KINGS)
        way = [(0, 0, 0), (0, 1, 0)]
        self.assertRight(KINGS, ([(1, 0, 1)] + corners, [way] + ways, sides[-1:] + sides), False)
        way = [(0, 0, 0), (0, 0, 1)]
        for at in (0, 1, 2):
            self.assertRight(KINGS, (
                corners[:at] + [(0, 1, 1)] + corners[at:], ways[:at] + [way] + ways[at:],
                sides[:at] + sides[:1] + sides[at:],
            ), False)

    def test_a_round_within_in_the_place_of_a_corner(self):
        corners, ways, sides = shape_of(CROOKED)
        for x, y, length in rounds_by_words(CROOKED):
            for at in range(len(corners)):
                if (x, y, length) != corners[at]:
                    self.assertRight(CROOKED, (put(corners, at, (x, y, length)), ways, sides), False)

    def test_another_round_for_a_corner_is_right(self):
        # Two rounds of kagome lead to the same end: by place 1 from place 0, and from place 1 by place 0.
        corners, ways, sides = shape_of(KAGOME)
        for way in ([(0, 0, 0), (1, 0, 0), (0, 1, 0)], [(1, 0, 0), (0, 1, 0), (1, 1, 0)]):
            self.assertTrue(is_round(KAGOME, way))
            self.assertRight(KAGOME, (corners, put(ways, 0, way), sides), True)
        way = [(0, 1, 0), (1, 1, 0), (0, 2, 0)]
        self.assertRight(KAGOME, (corners, put(ways, 0, way), sides), False)

    def test_a_truth_in_the_place_of_a_number(self):
        corners, ways, sides = shape_of(SQUARES)
        self.assertRight(SQUARES, (put(corners, 0, (True, 0, 1)), ways, sides), False)
        self.assertRight(SQUARES, (put(corners, 0, (1, False, 1)), ways, sides), False)
        self.assertRight(SQUARES, (put(corners, 0, (1, 0, True)), ways, sides), False)
        self.assertRight(SQUARES, (corners, put(ways, 0, [(0, 0, 0), (0, True, 0)]), sides), False)
        self.assertRight(SQUARES, (corners, put(ways, 0, [(0, False, 0), (0, 1, 0)]), sides), False)
        self.assertRight(SQUARES, (corners, ways, put(sides, 0, (1, 1, (False,), 1))), False)
        self.assertRight(SQUARES, (corners, ways, put(sides, 0, (1, 1, (0,), True))), False)

    def test_other_forms_are_not_let_by(self):
        corners, ways, sides = shape_of(SQUARES)
        for told in (
            None, (), (corners,), (corners, ways), (corners, ways, sides, []), (None, ways, sides),
            (corners, None, sides), (corners, ways, None), (corners, [None] * 4, sides), ([None] * 4, ways, sides),
            (corners, ways, [None] * 4),
            ([()] * 4, ways, sides), ({1: 2}, ways, sides), (corners, ways, [()] * 4), ([(1, 0)] * 4, ways, sides),
        ):
            self.assertRight(SQUARES, told, False)

    def test_of_large_numbers_and_long_lists(self):
        corners, ways, sides = shape_of(SQUARES)
        large = 10 ** 60 - 1
        self.assertRight(SQUARES, (put(corners, 0, (large, 0, large)), ways, sides), False)
        self.assertRight(SQUARES, (corners, put(ways, 0, [(0, 0, 0), (0, large, 0)]), sides), False)
        self.assertRight(SQUARES, (corners, ways, put(sides, 0, (large, large, (large,), large))), True)
        self.assertRight(SQUARES, (corners, ways, put(sides, 0, (large, large, (-large,), large - 1))), False)
        self.assertRight(SQUARES, (corners * 300, ways * 300, sides * 300), False)
        self.assertRight(SQUARES, (corners, put(ways, 0, ways[0] * 1000), sides), False)

    def test_of_a_grid_that_does_not_hang_together(self):
        corners, ways, sides = shape_of(SQUARES)
        both = [(x, y, marks * 2, bottom) for x, y, marks, bottom in sides]
        self.assertRight(TWO_LAYERS, (corners, ways, both), False)


class Rays(unittest.TestCase):
    def test_by_hand(self):
        self.assertEqual(rays_of(SQUARES), (((1, 0), 1), ((0, 1), 1), ((-1, 0), 1), ((0, -1), 1)))
        self.assertEqual(rays_of(HONEYCOMB), (
            ((1, 0), 2), ((0, 1), 2), ((-1, 1), 2), ((-1, 0), 2), ((0, -1), 2), ((1, -1), 2),
        ))

    def test_a_direction_on_the_rim_that_is_no_corner(self):
        self.assertEqual(rays_of(KINGS), (
            ((1, 0), 1), ((1, 1), 1), ((0, 1), 1), ((-1, 1), 1),
            ((-1, 0), 1), ((-1, -1), 1), ((0, -1), 1), ((1, -1), 1),
        ))

    def test_several_rounds_of_one_direction_with_unlike_lengths(self):
        self.assertEqual(rays_of(UNLIKE), (((2, 0), 2), ((0, 3), 3), ((-2, 0), 2), ((0, -3), 3)))
        self.assertEqual(rays_of(TWO_AND_THREE)[0], ((6, 0), 6))

    def test_a_slower_round_of_the_same_direction_counts_not(self):
        grid = (3, ((0, 0, 0, 1), (0, 0, 1, 0), (0, 1, 0, 0), (0, 2, -1, 0), (1, 2, 1, 0)))
        self.assertIn((2, 0, 3), rounds_by_words(grid))
        self.assertEqual(rays_of(grid)[0], ((1, 0), 1))

    def test_by_the_words(self):
        for grid in TOGETHER + SOME + (UNLIKE, TWO_AND_THREE):
            with self.subTest(grid):
                self.assertEqual(rays_of(grid), rays_by_words(grid))

    def test_its_form(self):
        for grid in TOGETHER:
            rays = rays_of(grid)
            self.assertIs(type(rays), tuple)
            for ray in rays:
                self.assertEqual([type(part) for part in ray], [tuple, int])
            self.assertEqual(rays_of(grid), rays)


if __name__ == "__main__":
    unittest.main()
