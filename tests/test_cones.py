"""Points 17, 18 and 19: papers of cones, the numbers they tell, and whether they hold."""

import functools
import math
import random
import unittest

from farshells.cones import cones_hold, cones_number
from farshells.errors import TooMany
from farshells.shape import rays_of
from samples import (
    HONEYCOMB, KAGOME, KINGS, LONE_PLACE, OCTAGONS, SQUARES, TRIANGLES, TWO_LAYERS, ties_from,
)
from test_rays import SLANTED, reach_by_words, steps_of, taken

# Squares, and at each place of them another one.
HANGERS = (2, ((0, 0, 0, 1), (0, 0, 1, 0), (0, 1, 0, 0)))
THIRTY = 10 ** 30 - 1
FOUR = rays_of(SQUARES)
# Rays of unlike lengths, begun elsewhere; in no cone of them do the numbers of squares turn.
UNEVEN = (((0, 2), 2), ((-1, 0), 1), ((-1, -3), 4), ((0, -1), 1), ((3, 0), 3), ((1, 2), 3))


class Rings:
    """How far places are from a start, looked for further and further."""

    def __init__(self, grid, start):
        self.grid = grid
        self.far = {(start, 0, 0): 0}
        self.rim = {(start, 0, 0)}
        self.number = 0

    def of(self, place):
        while place not in self.far:
            self.number += 1
            beside = {other for one in self.rim for other in ties_from(self.grid, one)}
            self.rim = {other for other in beside if other not in self.far}
            self.far.update((one, self.number) for one in self.rim)
        return self.far[place]


@functools.cache
def rings_of(grid, start):
    return Rings(grid, start)


@functools.cache
def rests_by_words(rays, cone):
    one, other = steps_of(rays, cone)
    ends = [(0, 0), one, other, (one[0] + other[0], one[1] + other[1])]
    cells = [
        (x, y) for x in range(min(end[0] for end in ends), max(end[0] for end in ends) + 1)
        for y in range(min(end[1] for end in ends), max(end[1] for end in ends) + 1)
    ]
    return [cell for cell in cells if 0 < taken(one, other, cell)[0] <= 1 and 0 <= taken(one, other, cell)[1] < 1]


def cell_at(rays, cone, rest, i, j):
    one, other = steps_of(rays, cone)
    return rest[0] + i * one[0] + j * other[0], rest[1] + i * one[1] + j * other[1]


def paper_by(grid, rays, most, number_of):
    """The paper with the numbers that number_of tells of places."""
    size = range(most + 1)
    cones = tuple(
        tuple(
            tuple(
                tuple(tuple(number_of((p, *cell_at(rays, cone, rest, i, j))) for j in size) for i in size)
                for p in range(grid[0])
            )
            for rest in rests_by_words(rays, cone)
        )
        for cone in range(len(rays))
    )
    return most, rays, tuple(number_of((p, 0, 0)) for p in range(grid[0])), cones


def paper_of(grid, start, rays, most):
    """The paper that tells how far places are, as far as its tables go."""
    return paper_by(grid, rays, most, rings_of(grid, start).of)


def told_by_words(paper, place):
    """The number that a paper tells, in steps from the cell back to its rest."""
    most, rays, home, cones = paper
    p, x, y = place
    if (x, y) == (0, 0):
        return home[p]
    for cone in range(len(rays)):
        one, other = steps_of(rays, cone)
        s, t = taken(one, other, (x, y))
        if s > 0 and t >= 0:
            i, j = math.ceil(s) - 1, math.floor(t)
            rest = (x - i * one[0] - j * other[0], y - i * one[1] - j * other[1])
            table = cones[cone][rests_by_words(rays, cone).index(rest)][p]
            number = table[min(i, most)][min(j, most)]
            if i > most:
                number += rays[cone][1] * (i - most)
            if j > most:
                number += rays[(cone + 1) % len(rays)][1] * (j - most)
            return number
    raise AssertionError("each cell is in a cone")


def has_form(grid, paper):
    """Whether all lengths and bounds are as point 18 says, of rays that hold."""
    most, rays, home, cones = paper
    if not 0 <= most <= 8 or len(home) != grid[0] or len(cones) != len(rays):
        return False
    for at, cone in enumerate(cones):
        if len(cone) != len(rests_by_words(rays, at)):
            return False
        for tables in cone:
            if len(tables) != grid[0] or any(len(table) != most + 1 for table in tables):
                return False
            if any(len(row) != most + 1 for table in tables for row in table):
                return False
    return True


def holds_by_words(grid, start, paper):
    """Whether each clause of point 19 is so, of rays that hold."""
    if not has_form(grid, paper):
        return False
    most, rays, home, cones = paper
    number_of = functools.cache(lambda place: told_by_words(paper, place))
    edge = range(most + reach_by_words(rays) + 1)
    cells = [(0, 0)] + [
        cell_at(rays, cone, rest, i, j)
        for cone in range(len(rays)) for rest in rests_by_words(rays, cone) for i in edge for j in edge
    ]
    for place in [(p, x, y) for p in range(grid[0]) for x, y in cells]:
        number = number_of(place)
        beside = [number_of(other) for other in ties_from(grid, place)]
        if number < 0 or (number == 0) != (place == (start, 0, 0)):
            return False
        if any(abs(other - number) > 1 for other in beside):
            return False
        if number > 0 and number - 1 not in beside:
            return False
    return True


def lone_cone(number):
    """A cone of one rest with one place, most being 0."""
    row = (number,)
    table = (row,)
    tables = (table,)
    return (tables,)


def changed_tuple(parts):
    """A tuple with one thing out, one twice, two exchanged, or none left."""
    for at in range(len(parts)):
        yield parts[:at] + parts[at + 1:]
        yield parts[:at] + parts[at:at + 1] + parts[at:]
    if len(parts) > 1 and parts[0] != parts[1]:
        yield (parts[1], parts[0]) + parts[2:]
    yield ()
    yield parts + parts


def put(parts, at, part):
    return parts[:at] + (part,) + parts[at + 1:]


def changed_numbers(numbers):
    for at, number in enumerate(numbers):
        for other in (number - 1, number + 1, number + 2, -number - 1, -1, 10 ** 60):
            yield put(numbers, at, other)


def changed_cones(cones, wide):
    """Cones with one thing changed: of each number, row, table, rest and cone, or of some where it is not wide."""
    yield from changed_tuple(cones)
    for a, cone in enumerate(cones):
        for other in changed_tuple(cone):
            yield put(cones, a, other)
        for b, tables in enumerate(cone):
            for c, table in enumerate(tables):
                changes = list(changed_tuple(table)) if wide else []
                for d, row in enumerate(table):
                    changes += [put(table, d, other) for other in changed_numbers(row)]
                    changes += [put(table, d, other) for other in changed_tuple(row)]
                for other in changes:
                    yield put(cones, a, put(cone, b, put(tables, c, other)))
            for other in changed_tuple(tables):
                yield put(cones, a, put(cone, b, other))


class Numbers(unittest.TestCase):
    def assertNumber(self, grid, paper, place, number):
        with self.subTest(grid=grid, most=paper[0], place=place):
            self.assertEqual(cones_number(grid, paper, place), number)

    def test_home(self):
        for grid, most in ((SQUARES, 0), (HONEYCOMB, 1), (KAGOME, 1), (OCTAGONS, 1)):
            for start in range(grid[0]):
                paper = paper_of(grid, start, rays_of(grid), most)
                for p in range(grid[0]):
                    self.assertNumber(grid, paper, (p, 0, 0), paper[2][p])
        # No rule binds home's numbers to the others.
        self.assertNumber(SQUARES, (0, FOUR, (77,), paper_of(SQUARES, 0, FOUR, 0)[3]), (0, 0, 0), 77)

    def test_near_by_the_words(self):
        chance = random.Random(18)
        for grid, rays in (
            (SQUARES, FOUR), (SQUARES, UNEVEN), (SQUARES, SLANTED), (HONEYCOMB, rays_of(HONEYCOMB)), (KAGOME, SLANTED),
        ):
            for most in (0, 1, 3):
                paper = paper_by(grid, rays, most, lambda place: chance.randint(0, 10 ** 20))
                for x in range(-9, 10):
                    for y in range(-9, 10):
                        for p in range(grid[0]):
                            self.assertNumber(grid, paper, (p, x, y), told_by_words(paper, (p, x, y)))

    def test_how_far_they_are(self):
        for grid, most in ((SQUARES, 0), (KINGS, 0), (TRIANGLES, 0), (HONEYCOMB, 1), (KAGOME, 1), (OCTAGONS, 1)):
            for start in range(grid[0]):
                paper = paper_of(grid, start, rays_of(grid), most)
                for x in range(-6, 7):
                    for y in range(-6, 7):
                        for p in range(grid[0]):
                            self.assertNumber(grid, paper, (p, x, y), rings_of(grid, start).of((p, x, y)))

    def test_thirty_figures(self):
        cells = [
            (THIRTY, THIRTY), (-THIRTY, THIRTY), (-THIRTY, -THIRTY), (THIRTY, -THIRTY), (THIRTY, 0), (0, THIRTY),
            (-THIRTY, 0), (0, -THIRTY), (THIRTY, 1), (1, THIRTY), (-1, -THIRTY), (10 ** 29, -THIRTY), (-7, 10 ** 20),
        ]
        for most in (0, 3):
            squares = paper_of(SQUARES, 0, FOUR, most)
            uneven = paper_of(SQUARES, 0, UNEVEN, most)
            kings = paper_of(KINGS, 0, rays_of(KINGS), most)
            for x, y in cells:
                self.assertNumber(SQUARES, squares, (0, x, y), abs(x) + abs(y))
                self.assertNumber(SQUARES, uneven, (0, x, y), abs(x) + abs(y))
                self.assertNumber(KINGS, kings, (0, x, y), max(abs(x), abs(y)))
        honeycomb = paper_of(HONEYCOMB, 0, rays_of(HONEYCOMB), 2)
        for x, y in cells:
            for p in (0, 1):
                self.assertNumber(HONEYCOMB, honeycomb, (p, x, y), told_by_words(honeycomb, (p, x, y)))

    def test_on_a_ray(self):
        for rays in (FOUR, UNEVEN):
            for most in (0, 2):
                paper = paper_of(SQUARES, 0, rays, most)
                for (x, y), ties in rays:
                    for times in (1, 2, 3, 4, 10, 10 ** 28):
                        self.assertNumber(SQUARES, paper, (0, times * x, times * y), times * ties)

    def test_beyond_on_one_side_and_on_both(self):
        # By other ties than belong to it, so that each is seen: i steps (1, 0), j steps (0, 1).
        rays = (((1, 0), 100), ((0, 1), 10 ** 4), ((-1, -1), 7))
        paper = paper_by(SQUARES, rays, 2, lambda place: place[1] + 10 * place[2])
        for x, y, number in (
            (1, 0, 1), (3, 0, 3), (3, 2, 23), (4, 2, 123), (9, 1, 613), (2, 3, 10022), (1, 7, 50021), (5, 4, 20223),
        ):
            self.assertNumber(SQUARES, paper, (0, x, y), number)


class ConesHold(unittest.TestCase):
    def assertHold(self, grid, start, paper, truth):
        with self.subTest(grid=grid, start=start, paper=paper):
            self.assertIs(cones_hold(grid, start, paper), truth)

    def test_those_that_hold(self):
        for grid, least in ((SQUARES, 0), (KINGS, 0), (TRIANGLES, 0), (HONEYCOMB, 1), (KAGOME, 1), (OCTAGONS, 1)):
            for start in range(grid[0]):
                for most in (least, least + 1):
                    paper = paper_of(grid, start, rays_of(grid), most)
                    self.assertTrue(holds_by_words(grid, start, paper))
                    self.assertHold(grid, start, paper, True)

    def test_by_hand(self):
        self.assertEqual(paper_of(SQUARES, 0, FOUR, 0), (0, FOUR, (0,), (lone_cone(1),) * 4))
        self.assertHold(SQUARES, 0, (0, FOUR, (0,), (lone_cone(1),) * 4), True)
        self.assertHold(SQUARES, 0, (0, FOUR, (0,), (lone_cone(2),) * 4), False)

    def test_other_rays_than_the_grids(self):
        for most in (0, 1):
            self.assertHold(SQUARES, 0, paper_of(SQUARES, 0, UNEVEN, most), True)
        twice = tuple(((2 * x, 2 * y), 2 * ties) for (x, y), ties in rays_of(HONEYCOMB))
        self.assertHold(HONEYCOMB, 1, paper_of(HONEYCOMB, 1, twice, 1), True)
        # The numbers turn within the cones of these.
        for most in (0, 3):
            self.assertHold(SQUARES, 0, paper_of(SQUARES, 0, SLANTED, most), False)

    def test_from_whichever_ray_on(self):
        for grid, most in ((SQUARES, 0), (HONEYCOMB, 1)):
            most, rays, home, cones = paper_of(grid, 0, rays_of(grid), most)
            for at in range(1, len(rays)):
                self.assertHold(grid, 0, (most, rays[at:] + rays[:at], home, cones[at:] + cones[:at]), True)
        most, rays, home, cones = paper_of(SQUARES, 0, UNEVEN, 0)
        for at in range(1, len(rays)):
            self.assertHold(SQUARES, 0, (most, rays[at:] + rays[:at], home, cones), False)
            self.assertHold(SQUARES, 0, (most, rays, home, cones[at:] + cones[:at]), False)

    def test_too_small_tables(self):
        for grid in (HONEYCOMB, KAGOME, OCTAGONS):
            for start in range(grid[0]):
                paper = paper_of(grid, start, rays_of(grid), 0)
                self.assertFalse(holds_by_words(grid, start, paper))
                self.assertHold(grid, start, paper, False)

    def test_of_another_start(self):
        for grid in (HONEYCOMB, KAGOME, OCTAGONS):
            paper = paper_of(grid, 0, rays_of(grid), 1)
            for start in range(1, grid[0]):
                self.assertHold(grid, start, paper, False)

    def test_of_another_grid(self):
        kings = paper_of(KINGS, 0, rays_of(KINGS), 1)
        squares = paper_by(KINGS, rays_of(KINGS), 1, lambda place: abs(place[1]) + abs(place[2]))
        squares = (1, tuple((step, abs(step[0]) + abs(step[1])) for step, ties in squares[1]), *squares[2:])
        self.assertHold(SQUARES, 0, squares, True)
        # All neighbours differ by 1 at most, but (1, 1) has 1 and none beside it 0.
        self.assertHold(SQUARES, 0, kings, False)
        # Each other place has a neighbour with 1 less, but (1, 1) has 2 beside 0.
        self.assertHold(KINGS, 0, squares, False)

    def test_one_thing_changed(self):
        for grid, rays, most, wide in (
            (SQUARES, FOUR, 0, True), (SQUARES, FOUR, 1, True), (SQUARES, UNEVEN, 0, True),
            (HONEYCOMB, rays_of(HONEYCOMB), 1, True), (KAGOME, rays_of(KAGOME), 1, False),
        ):
            most, rays, home, cones = paper = paper_of(grid, 0, rays, most)
            for other in changed_cones(cones, wide):
                if other != cones:
                    changed = (most, rays, home, other)
                    self.assertHold(grid, 0, changed, False)
            for other in [*changed_numbers(home), *changed_tuple(home)]:
                if other != home:
                    self.assertHold(grid, 0, (most, rays, other, cones), False)
            for other in (most - 1, most + 1, -1, 8, 9, 10 ** 60, -10 ** 60):
                if other != most:
                    self.assertHold(grid, 0, (other, rays, home, cones), False)
            self.assertHold(grid, 0, paper, True)

    def test_a_ray_changed(self):
        for grid, least in ((SQUARES, 0), (KINGS, 0), (HONEYCOMB, 1)):
            for most in (least, least + 1):
                most, rays, home, cones = paper_of(grid, 0, rays_of(grid), most)
                for at, ((x, y), ties) in enumerate(rays):
                    for ray in (
                        ((x, y), ties + 1), ((x, y), ties - 1), ((x, y), 200), ((2 * x, 2 * y), ties),
                        ((2 * x, 2 * y), 2 * ties), ((x + 1, y), ties), ((x, y - 1), ties), ((-x, -y), ties),
                    ):
                        self.assertHold(grid, 0, (most, put(rays, at, ray), home, cones), False)
                    self.assertHold(grid, 0, (most, rays[:at] + rays[at + 1:], home, cones), False)
                    self.assertHold(grid, 0, (most, rays[:at + 1] + rays[at:], home, cones), False)

    def test_by_the_words_of_drawn_ones(self):
        chance = random.Random(20)
        seen = {True: 0, False: 0}
        for grid, rays, most in ((SQUARES, FOUR, 1), (TRIANGLES, rays_of(TRIANGLES), 1), (SQUARES, UNEVEN, 0)):
            far = rings_of(grid, 0)
            for _ in range(120):
                many = chance.choice((0, 0.01, 0.1))
                paper = paper_by(grid, rays, most, lambda place: far.of(place) + (chance.random() < many))
                truth = holds_by_words(grid, 0, paper)
                seen[truth] += 1
                self.assertHold(grid, 0, paper, truth)
        self.assertGreater(min(seen.values()), 50)

    def test_eight_and_nine_as_most(self):
        for most, truth in ((7, True), (8, True), (9, False), (10, False)):
            self.assertHold(SQUARES, 0, paper_of(SQUARES, 0, FOUR, most), truth)
        self.assertHold(HONEYCOMB, 0, paper_of(HONEYCOMB, 0, rays_of(HONEYCOMB), 8), True)

    def test_a_most_below_nought_with_tables_of_its_size(self):
        self.assertHold(SQUARES, 0, (-1, FOUR, (0,), ((((),),),) * 4), False)
        self.assertHold(SQUARES, 0, (-2, FOUR, (0,), ((((),),),) * 4), False)
        self.assertHold(SQUARES, 0, (-1, FOUR, (0,), paper_of(SQUARES, 0, FOUR, 0)[3]), False)

    def test_a_second_place_with_nought(self):
        # To the nearer one of two places: all else is as it must be.
        def nearer(place):
            return min(abs(place[1]), abs(place[1] - 5)) + abs(place[2])
        self.assertHold(SQUARES, 0, paper_by(SQUARES, FOUR, 6, nearer), False)
        self.assertHold(SQUARES, 0, paper_by(SQUARES, FOUR, 8, nearer), False)
        paper = paper_by(TWO_LAYERS, FOUR, 1, lambda place: abs(place[1]) + abs(place[2]))
        self.assertHold(TWO_LAYERS, 0, paper, False)

    def test_all_numbers_higher_or_lower(self):
        for by in (-1, 1, 5, 10 ** 30):
            self.assertHold(
                SQUARES, 0, paper_by(SQUARES, FOUR, 1, lambda place: abs(place[1]) + abs(place[2]) + by), False
            )
            self.assertHold(
                SQUARES, 0,
                paper_by(SQUARES, FOUR, 1, lambda place: abs(place[1]) + abs(place[2]) + by * (place[1:] != (0, 0))),
                False,
            )

    def test_numbers_below_nought(self):
        self.assertHold(SQUARES, 0, paper_by(SQUARES, FOUR, 1, lambda place: -abs(place[1]) - abs(place[2])), False)
        self.assertHold(SQUARES, 0, paper_by(SQUARES, FOUR, 2, lambda place: place[1] + place[2]), False)

    def test_grids_that_do_not_hang_together(self):
        for mark in range(4):
            paper = paper_by(LONE_PLACE, FOUR, 0, lambda place: abs(place[1]) + abs(place[2]) + place[0] * mark)
            self.assertHold(LONE_PLACE, 0, paper, False)

    def test_a_truth_in_the_place_of_a_number(self):
        most, rays, home, cones = paper_of(SQUARES, 0, FOUR, 0)
        self.assertHold(SQUARES, 0, (False, rays, home, cones), False)
        self.assertHold(SQUARES, 0, (most, rays, (False,), cones), False)
        self.assertHold(SQUARES, 0, (most, (((True, 0), 1),) + rays[1:], home, cones), False)
        self.assertHold(SQUARES, 0, (most, (((1, 0), True),) + rays[1:], home, cones), False)
        for at in range(4):
            self.assertHold(SQUARES, 0, (most, rays, home, put(cones, at, lone_cone(True))), False)
        self.assertHold(SQUARES, 0, (True, *paper_of(SQUARES, 0, FOUR, 1)[1:]), False)

    def test_other_forms_are_not_let_by(self):
        most, rays, home, cones = paper_of(SQUARES, 0, FOUR, 0)
        for paper in (
            [most, rays, home, cones], (most, [*rays], home, cones), (most, rays, [*home], cones), None, (), 5,
            (most, rays, home), (most, rays, home, cones, 0), (most, rays, home, None), (most, rays, None, cones),
            (None, rays, home, cones), (most, None, home, cones), (most, rays, home, [*cones]),
        ):
            self.assertHold(SQUARES, 0, paper, False)
        row = (1,)
        for cone in (
            None, 1, row, (row,), ((row,),), ((((row,),),),), [((row,),)], ([(row,)],), (([row],),), (([1],),),
            (((1,),), 1), lone_cone(None), lone_cone("1"), lone_cone(row), lone_cone([1]),
        ):
            self.assertHold(SQUARES, 0, (most, rays, home, put(cones, 2, cone)), False)
            self.assertHold(SQUARES, 0, (most, rays, home, (cone,) * 4), False)

    def test_rays_that_do_not_hold(self):
        most, rays, home, cones = paper_of(SQUARES, 0, FOUR, 0)
        for other in (
            (), rays[:1], rays[:2], rays[:3], rays[::-1], rays * 2, rays[:1] * 4, (((0, 0), 1),) + rays[1:],
            # With more tables than there may be, too.
            (((61, 0), 61), ((0, 61), 61), ((-61, 0), 61), ((0, -61), 61)), (((60, 0), 201),) + rays[1:],
            (((60, 0), 60), ((0, 60), 60), ((-60, 0), 60)), (((60, 0), 0), ((0, 60), 60), ((-60, -60), 60)),
        ):
            self.assertHold(SQUARES, 0, (most, other, home, cones), False)
            self.assertHold(SQUARES, 0, (most, other, home, cones[:1] * len(other)), False)


class TooManyTables(unittest.TestCase):
    def squares_by(self, steps, most=0):
        rays = tuple((step, abs(step[0]) + abs(step[1])) for step in steps)
        return paper_by(SQUARES, rays, most, lambda place: abs(place[1]) + abs(place[2]))

    def assertTables(self, grid, steps, tables):
        """That so many tables are let by to 200; the steps lie along the axes, so they span (a + c) * (b + d)."""
        rays = tuple((step, abs(step[0]) + abs(step[1])) for step in steps)
        paper = paper_by(grid, rays, 0, lambda place: abs(place[1]) + abs(place[2]) + place[0])
        with self.subTest(grid=grid, steps=steps):
            self.assertEqual(grid[0] * sum(len(cone) for cone in paper[3]), tables)
            if tables <= 200:
                self.assertIs(cones_hold(grid, 0, paper), True)
            else:
                self.assertRaises(TooMany, cones_hold, grid, 0, paper)

    def test_two_hundred_and_one_more(self):
        self.assertTables(SQUARES, ((33, 0), (0, 2), (-7, 0), (0, -3)), 200)
        self.assertTables(SQUARES, ((10, 0), (0, 5), (-10, 0), (0, -5)), 200)
        self.assertTables(SQUARES, ((60, 0), (0, 1), (-7, 0), (0, -2)), 201)
        self.assertTables(SQUARES, ((17, 0), (0, 3), (-17, 0), (0, -3)), 204)

    def test_places_count(self):
        self.assertTables(HANGERS, ((19, 0), (0, 4), (-1, 0), (0, -1)), 200)
        self.assertTables(HANGERS, ((7, 0), (0, 3), (-10, 0), (0, -3)), 204)
        self.assertTables(HANGERS, ((33, 0), (0, 2), (-7, 0), (0, -3)), 400)

    def test_a_reach_of_twelve_and_of_thirteen(self):
        found = set()
        for far in range(1, 12):
            for high in range(1, 4):
                paper = self.squares_by(((1, 0), (far, high), (0, 1), (-1, 0), (-1, -1), (0, -1)))
                reach = reach_by_words(paper[1])
                found.add(reach)
                with self.subTest(far=far, high=high, reach=reach):
                    if reach <= 12:
                        self.assertIs(cones_hold(SQUARES, 0, paper), True)
                    else:
                        self.assertRaises(TooMany, cones_hold, SQUARES, 0, paper)
        self.assertTrue({11, 12, 13} <= found, found)

    def test_refused_whatever_else_is_wrong(self):
        most, rays, home, cones = self.squares_by(((17, 0), (0, 3), (-17, 0), (0, -3)))
        for paper in (
            (9, rays, home, cones), (-1, rays, home, cones), (most, rays, (), cones), (most, rays, home, ()),
            (most, rays, (5,), cones), (most, rays, home, cones[1:]), (most, rays, (-1,), cones),
        ):
            self.assertRaises(TooMany, cones_hold, SQUARES, 0, paper)


if __name__ == "__main__":
    unittest.main()
