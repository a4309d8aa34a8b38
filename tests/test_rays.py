"""Points 17 and 19: rays, cones and the reach."""

import math
import random
import unittest
from fractions import Fraction

from farshells.rays import cone_place, cone_rests, rays_hold, reach_of
from farshells.shape import rays_of
from samples import KINGS, TOGETHER

THREE = (((1, 0), 1), ((0, 1), 1), ((-1, -1), 2))
LONG = (((60, 0), 200), ((0, 60), 1), ((-60, -60), 200))
# It begins in another direction than (1, 0), with unlike steps.
SLANTED = (((-3, 1), 4), ((-2, -5), 9), ((4, -1), 7), ((2, 3), 11))
SLIM = (((7, 1), 3), ((6, 1), 5), ((-1, 2), 1), ((-5, -1), 2), ((3, -4), 6))
SAMPLES = (THREE, SLANTED, SLIM) + tuple(rays_of(grid) for grid in TOGETHER)


def cross(one, other):
    return one[0] * other[1] - one[1] * other[0]


def angle_of(step):
    return math.atan2(step[1], step[0]) % (2 * math.pi)


def directions(far):
    """All directions of steps with numbers up to so far, each once, going round from (1, 0)."""
    steps = [
        (x, y) for x in range(-far, far + 1) for y in range(-far, far + 1) if math.gcd(x, y) == 1
    ]
    return sorted(steps, key=angle_of)


def spread(many):
    """So many rays, spread over all directions."""
    steps = directions(7)
    return tuple((steps[at * len(steps) // many], 1 + at) for at in range(many))


def taken(one, other, cell):
    """How often two steps are taken in a cell: (s, t) with cell = s * one + t * other."""
    whole = cross(one, other)
    return Fraction(cross(cell, other), whole), Fraction(cross(one, cell), whole)


def steps_of(rays, i):
    return rays[i][0], rays[(i + 1) % len(rays)][0]


def goes_once_round(steps):
    """Whether each turn is to the left by less than half, and all together are one, by angles."""
    turns = []
    for one, other in zip(steps, steps[1:] + steps[:1]):
        if cross(one, other) <= 0:
            return False
        turns.append(math.atan2(cross(one, other), one[0] * other[0] + one[1] * other[1]))
    return abs(sum(turns) - 2 * math.pi) < 1


def reach_by_words(rays):
    greatest = 0
    beside = [(x, y) for x in (-1, 0, 1) for y in (-1, 0, 1) if (x, y) != (0, 0)]
    for i in range(len(rays)):
        r, (s, t), q = rays[i - 1][0], steps_of(rays, i), rays[(i + 2) % len(rays)][0]
        a = max(abs(taken(s, t, cell)[0]) for cell in beside)
        b = max(abs(taken(s, t, cell)[1]) for cell in beside)
        c = abs(taken(r, s, t)[1])
        d = abs(taken(t, q, s)[0])
        greatest = max(greatest, a + b * c, b + a * d)
    return 2 + math.ceil(greatest)


class RaysHold(unittest.TestCase):
    def assertHold(self, rays, truth):
        with self.subTest(rays=rays):
            self.assertIs(rays_hold(rays), truth)

    def test_samples(self):
        for rays in SAMPLES + (LONG,):
            self.assertHold(rays, True)

    def test_from_whichever_ray_on(self):
        for rays in SAMPLES:
            for at in range(len(rays)):
                self.assertHold(rays[at:] + rays[:at], True)

    def test_how_many(self):
        for many in range(3, 41):
            self.assertHold(spread(many), True)
        for many in (41, 42, 60):
            self.assertTrue(goes_once_round([step for step, ties in spread(many)]))
            self.assertHold(spread(many), False)
        for rays in ((), THREE[:1], THREE[:2], (((1, 0), 1), ((-1, 0), 1)), THREE[:1] * 3):
            self.assertHold(rays, False)

    def test_sixty_and_sixty_one(self):
        for x, y in ((60, 0), (0, 60), (-60, 0), (0, -60), (60, 60), (-60, 60), (-60, -60), (60, -60)):
            for at, (step, ties) in enumerate(rays_of(KINGS)):
                if step == (x // 60, y // 60):
                    rays = rays_of(KINGS)
                    self.assertHold(rays[:at] + (((x, y), ties),) + rays[at + 1:], True)
                    for u, v in ((x * 61 // 60, y), (x, y * 61 // 60)):
                        if (u, v) != (x, y):
                            self.assertHold(rays[:at] + (((u, v), ties),) + rays[at + 1:], False)
        self.assertHold(LONG[:2] + (((-61, -60), 1),), False)
        self.assertHold(LONG[:2] + (((-60, -61), 1),), False)
        self.assertHold((((61, 0), 1),) + LONG[1:], False)
        self.assertHold((((10 ** 60, 0), 1),) + LONG[1:], False)

    def test_ties(self):
        for at, (step, ties) in enumerate(SLANTED):
            for other, truth in ((1, True), (200, True), (0, False), (201, False), (-1, False), (10 ** 60, False)):
                self.assertHold(SLANTED[:at] + ((step, other),) + SLANTED[at + 1:], truth)

    def test_a_turn_of_half_and_of_more(self):
        self.assertHold((((1, 0), 1), ((0, 1), 1), ((-1, 0), 1)), False)
        self.assertHold((((1, 0), 1), ((-1, 0), 1), ((0, -1), 1)), False)
        self.assertHold((((1, 0), 1), ((0, 1), 1), ((-60, -1), 1)), True)
        self.assertHold((((1, 0), 1), ((0, 1), 1), ((-60, 1), 1)), False)
        self.assertHold((((1, 0), 1), ((1, 1), 1), ((0, 1), 1)), False)

    def test_a_turn_to_the_right(self):
        for rays in SAMPLES:
            self.assertHold(rays[::-1], False)
            for at in range(len(rays)):
                turned = list(rays)
                turned[at], turned[at - 1] = turned[at - 1], turned[at]
                self.assertHold(tuple(turned), False)

    def test_twice_round(self):
        for rays in SAMPLES:
            self.assertHold(rays * 2, False)
            self.assertHold(rays * 3, False)
        # Each second corner of a pentagon.
        five = [(10, 0), (3, 10), (-8, 6), (-8, -6), (3, -10)]
        star = tuple((five[at * 2 % 5], 1) for at in range(5))
        self.assertTrue(all(cross(*steps_of(star, i)) > 0 for i in range(5)))
        self.assertHold(star, False)
        self.assertHold(tuple((step, 1) for step in five), True)

    def test_no_step_and_the_same_direction_twice(self):
        for rays in SAMPLES:
            for at, (step, ties) in enumerate(rays):
                self.assertHold(rays[:at] + (((0, 0), ties),) + rays[at + 1:], False)
                self.assertHold(rays[:at] + (((0, 0), ties),) + rays[at:], False)
                self.assertHold(rays[:at] + rays[at:at + 1] + rays[at:], False)
                twice = ((step[0] * 2, step[1] * 2), ties)
                self.assertHold(rays[:at] + (twice,) + rays[at:], False)
                self.assertHold(rays[:at] + (twice,) + rays[at + 1:], True)

    def test_drawn_ones(self):
        chance = random.Random(17)
        held = 0
        for _ in range(6000):
            steps = [(chance.randint(-4, 4), chance.randint(-4, 4)) for _ in range(chance.randint(3, 5))]
            if chance.random() < 0.6:
                steps = sorted(steps, key=angle_of)
                at = chance.randrange(len(steps))
                steps = steps[at:] + steps[:at]
            truth = goes_once_round(steps)
            held += truth
            self.assertHold(tuple((step, 1) for step in steps), truth)
        self.assertGreater(held, 500)

    def test_a_truth_in_the_place_of_a_number(self):
        for truth in (True, False):
            for ray in (((truth, 0), 1), ((1, truth), 1), ((1, 0), truth)):
                self.assertHold((ray,) + THREE[1:], False)
        self.assertHold((((1, 0), 1),) + THREE[1:], True)

    def test_other_forms_are_not_let_by(self):
        for rays in (
            None, [*THREE], 5, (1, 2, 3), THREE[:2] + (((-1, -1),),), THREE[:2] + ((-1, -1, 2),),
            THREE[:2] + ([(-1, -1), 2],), THREE[:2] + (([-1, -1], 2),), THREE[:2] + (((-1, -1, 0), 2),), (None,) * 3,
            THREE[:2] + (((-1, -1), None),), THREE[:2] + (((-1, "1"), 1),), THREE[:2] + (((-1,), 1),), ((),) * 3,
        ):
            self.assertHold(rays, False)

    def test_long_tuples(self):
        self.assertHold(THREE * 3000, False)


class Rests(unittest.TestCase):
    def test_by_the_words(self):
        for rays in SAMPLES + (spread(12), spread(40)):
            for i in range(len(rays)):
                one, other = steps_of(rays, i)
                box = [
                    (x, y) for x in range(-20, 21) for y in range(-20, 21)
                    if 0 < taken(one, other, (x, y))[0] <= 1 and 0 <= taken(one, other, (x, y))[1] < 1
                ]
                with self.subTest(rays=rays, i=i):
                    self.assertEqual(cone_rests(rays, i), box)

    def test_by_hand(self):
        self.assertEqual(cone_rests(THREE, 0), [(1, 0)])
        self.assertEqual(cone_rests((((2, 0), 2), ((0, 2), 2), ((-2, -2), 2)), 0), [(1, 0), (1, 1), (2, 0), (2, 1)])
        self.assertEqual(cone_rests((((1, 1), 1), ((-1, 1), 1), ((0, -1), 1)), 0), [(0, 1), (1, 1)])

    def test_rising_as_many_as_the_two_steps_span(self):
        for rays in SAMPLES + (LONG, spread(40)):
            for i in range(len(rays)):
                rests = cone_rests(rays, i)
                self.assertIs(type(rests), list)
                self.assertTrue(all(type(rest) is tuple and len(rest) == 2 for rest in rests))
                self.assertEqual(len(rests), cross(*steps_of(rays, i)))
                self.assertEqual(rests, sorted(set(rests)))
                for rest in rests:
                    s, t = taken(*steps_of(rays, i), rest)
                    self.assertTrue(0 < s <= 1 and 0 <= t < 1)

    def test_what_is_told_is_the_askers_own(self):
        before = cone_rests(SLANTED, 2)
        cone_rests(SLANTED, 2).clear()
        self.assertEqual(cone_rests(SLANTED, 2), before)


class Places(unittest.TestCase):
    def assertPlace(self, rays, cell, rests):
        with self.subTest(rays=rays, cell=cell):
            told = cone_place(rays, cell)
            self.assertIs(type(told), tuple)
            cone, rest, i, j = told
            self.assertIn(rest, rests[cone])
            self.assertTrue(i >= 0 and j >= 0)
            one, other = steps_of(rays, cone)
            self.assertEqual(
                (rest[0] + i * one[0] + j * other[0], rest[1] + i * one[1] + j * other[1]), cell
            )
            having = []
            for at in range(len(rays)):
                s, t = taken(*steps_of(rays, at), cell)
                if s > 0 and t >= 0:
                    having.append(at)
            self.assertEqual(having, [cone])

    def test_each_cell_is_in_just_one_cone(self):
        for rays in SAMPLES + (spread(40),):
            rests = [cone_rests(rays, i) for i in range(len(rays))]
            for x in range(-8, 9):
                for y in range(-8, 9):
                    if (x, y) != (0, 0):
                        self.assertPlace(rays, (x, y), rests)

    def test_far_cells(self):
        chance = random.Random(18)
        large = 10 ** 30 - 1
        for rays in SAMPLES + (LONG,):
            rests = [{*cone_rests(rays, i)} for i in range(len(rays))]
            for cell in ((large, large), (-large, large), (-large, 0), (0, -large), (large, -1), (1, -large)):
                self.assertPlace(rays, cell, rests)
            for _ in range(20):
                self.assertPlace(rays, (chance.randint(-large, large), chance.randint(-large, large)), rests)

    def test_cells_on_a_ray(self):
        for rays in SAMPLES:
            for cone, ((x, y), ties) in enumerate(rays):
                for times in (1, 2, 3, 17, 10 ** 28):
                    self.assertEqual(cone_place(rays, (times * x, times * y)), (cone, (x, y), times - 1, 0))

    def test_by_hand(self):
        self.assertEqual(cone_place(THREE, (1, 0)), (0, (1, 0), 0, 0))
        self.assertEqual(cone_place(THREE, (3, 2)), (0, (1, 0), 2, 2))
        self.assertEqual(cone_place(THREE, (0, 1)), (1, (0, 1), 0, 0))
        self.assertEqual(cone_place(THREE, (-1, 4)), (1, (0, 1), 4, 1))
        self.assertEqual(cone_place(THREE, (4, -1)), (2, (-1, -1), 0, 5))
        self.assertEqual(cone_place((((2, 0), 2), ((0, 2), 2), ((-2, -2), 2)), (5, 3)), (0, (1, 1), 2, 1))


class Reach(unittest.TestCase):
    def test_by_hand(self):
        # In each cone a cell beside takes each step once at most, and no step takes another one.
        self.assertEqual(reach_of((((1, 0), 1), ((0, 1), 1), ((-1, 0), 1), ((0, -1), 1))), 3)
        # By (1, 0) and (1, 1): (-1, 1) takes them twice, less, and once; (1, 1) takes (1, 0) twice, by (1, -1) and it;
        # (1, 0) takes (1, 1) once, by it and (0, 1). So 2 + 1 * 2 and 1 + 2 * 1, and the greater one is 4.
        self.assertEqual(reach_of(rays_of(KINGS)), 6)
        # A third: rounded up to 1.
        self.assertEqual(reach_of((((3, 0), 1), ((0, 3), 1), ((-3, 0), 1), ((0, -3), 1))), 3)

    def test_by_the_words(self):
        for rays in SAMPLES + (LONG, spread(5), spread(12), spread(40)):
            with self.subTest(rays=rays):
                self.assertEqual(reach_of(rays), reach_by_words(rays))
                self.assertIs(type(reach_of(rays)), int)

    def test_drawn_ones(self):
        chance = random.Random(19)
        seen = set()
        while len(seen) < 400:
            steps = [(chance.randint(-9, 9), chance.randint(-9, 9)) for _ in range(chance.randint(3, 9))]
            rays = tuple((step, 1) for step in sorted(steps, key=angle_of))
            if rays_hold(rays):
                seen.add(rays)
                self.assertEqual(reach_of(rays), reach_by_words(rays))

    def test_from_whichever_ray_on_it_is_the_same(self):
        for rays in SAMPLES:
            for at in range(len(rays)):
                self.assertEqual(reach_of(rays[at:] + rays[:at]), reach_of(rays))


if __name__ == "__main__":
    unittest.main()
