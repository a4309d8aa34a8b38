"""Point 11: ribbons and the rules of how far their places are."""

import functools
import itertools
import random
import unittest

from farshells.ribbons import is_ribbon, rule_holds, rule_number
from samples import anything, texts_of

PATH = (1, ((0, 0, 1),))
LEAPS = (1, ((0, 0, 1), (0, 0, 2)))
LADDER = (2, ((0, 0, 1), (0, 1, 0), (1, 1, 1)))
SKEW = (2, ((0, 0, 2), (0, 1, -1), (0, 1, 2)))
ZIGZAG = (3, ((0, 1, 0), (0, 2, -1), (1, 2, 0)))
BRANCH = (4, ((0, 0, 1), (0, 1, 0), (1, 2, 0), (2, 3, 0)))
MIXED = (4, ((0, 1, 0), (0, 3, -2), (1, 2, 1), (2, 3, 2), (3, 3, 1)))
RIBBONS = (PATH, LEAPS, LADDER, SKEW, ZIGZAG, BRANCH, MIXED)
APART = (
    (1, ()), (2, ()), (1, ((0, 0, 2),)), (2, ((0, 0, 1),)), (2, ((0, 0, 1), (1, 1, 1))), (2, ((0, 1, 0),)),
    (2, ((0, 1, -1), (0, 1, 1))),
)
EDGE = 60


def all_ties(places):
    return sorted(
        (a, b, x) for a in range(places) for b in range(a, places) for x in (-2, -1, 0, 1, 2) if a < b or x > 0
    )


def ties_from(ribbon, place):
    p, u = place
    return {(b, u + x) for a, b, x in ribbon[1] if a == p} | {(a, u - x) for a, b, x in ribbon[1] if b == p}


@functools.cache
def searched(ribbon, start):
    """How far the places up to EDGE cells away are, by a search of its own in twice as many cells."""
    far = {(start, 0): 0}
    rim = [(start, 0)]
    while rim:
        place = rim.pop(0)
        for other in sorted(ties_from(ribbon, place)):
            if other not in far and abs(other[1]) <= 2 * EDGE:
                far[other] = far[place] + 1
                rim.append(other)
    return far


def side_found(ribbon, far, middle, sign):
    """The pairs (step, rise) by which the numbers go on beyond middle on this side."""
    sides = []
    for step in range(1, middle + 1):
        cells = range(middle - step + 1, EDGE - step + 1)
        rises = {
            far[(p, sign * (x + step))] - far[(p, sign * x)] for x in cells for p in range(ribbon[0])
        }
        if len(rises) == 1 and min(rises) > 0:
            sides.append((step, min(rises)))
    return sides


@functools.cache
def rules_found(ribbon, start, most=13):
    """All rules with a middle up to most that tell how far the places are, by the search."""
    far = searched(ribbon, start)
    rules = []
    for middle in range(1, most + 1):
        rows = tuple(tuple(far[(p, x)] for p in range(ribbon[0])) for x in range(-middle, middle + 1))
        for right in side_found(ribbon, far, middle, 1):
            for left in side_found(ribbon, far, middle, -1):
                rules.append((middle, right, left, rows))
    return rules


def told_by_words(rule, p, x):
    """The number of (p, x), one step after the other."""
    middle, right, left, rows = rule
    rises = 0
    while x > middle:
        x, rises = x - right[0], rises + right[1]
    while x < -middle:
        x, rises = x + left[0], rises + left[1]
    return rows[x + middle][p] + rises


def with_row(rule, at, row):
    middle, right, left, rows = rule
    return middle, right, left, rows[:at] + (row,) + rows[at + 1:]


class IsRibbon(unittest.TestCase):
    def assertRibbon(self, thing, truth):
        with self.subTest(repr(thing)):
            self.assertIs(is_ribbon(thing), truth)

    def test_ribbons(self):
        for ribbon in RIBBONS + APART:
            self.assertRibbon(ribbon, True)

    def test_every_tie_alone(self):
        for places in (1, 2, 3, 4):
            for tie in itertools.product(range(-1, 6), range(-1, 6), range(-3, 4)):
                self.assertEqual(is_ribbon((places, (tie,))), tie in all_ties(places), (places, tie))

    def test_no_ties_and_eight_but_no_ninth(self):
        for places in (1, 2, 3, 4):
            self.assertRibbon((places, ()), True)
        for places in (2, 3, 4):
            ties = tuple(all_ties(places))
            self.assertRibbon((places, ties[:8]), True)
            self.assertRibbon((places, ties[-8:]), True)
            self.assertRibbon((places, ties[:9]), False)

    def test_how_many_places(self):
        for places in (0, -1, 5, 10 ** 30, True, False, None, "1", (1,), [1]):
            self.assertRibbon((places, ()), False)

    def test_wrong_ties(self):
        for ties in (
            ((0, 0, 2), (0, 0, 1)), ((0, 0, 1), (0, 0, 1)), ((0, 0, -1),), ((0, 0, 0),), ((1, 0, 0),), ((0, 2, 0),),
            ((-1, 0, 0),), ((0, 1, 3),), ((0, 1, -3),), ((0, 0, 1, 0),), ((0, 1),), ([0, 0, 1],), ((0, 0, 0, 1),),
            [(0, 0, 1)], {(0, 0, 1): 1}, ((1, 1, 0),),
        ):
            self.assertRibbon((2, ties), False)

    def test_other_kinds_in_the_place_of_numbers(self):
        for wrong in (True, False, None, "0", [], [0], (), {}):
            for at in range(3):
                tie = [0, 1, 1]
                tie[at] = wrong
                self.assertRibbon((2, (tuple(tie),)), False)
            self.assertRibbon((2, ((0, 0, 1), wrong)), False)
        self.assertRibbon([1, ()], False)
        self.assertRibbon((1,), False)
        self.assertRibbon((1, (), ()), False)

    def test_of_anything(self):
        things = anything()
        before = texts_of(things)
        for thing in things:
            self.assertRibbon(thing, False)
            self.assertRibbon((1, thing), thing == ())
            self.assertRibbon((thing, ()), type(thing) is int and thing == 1)
            self.assertRibbon((1, (thing,)), False)
        self.assertEqual(texts_of(things), before)


class RuleNumber(unittest.TestCase):
    def test_within_and_on_both_sides(self):
        for ribbon in RIBBONS:
            for start in range(ribbon[0]):
                far = searched(ribbon, start)
                for rule in rules_found(ribbon, start)[:6]:
                    for p in range(ribbon[0]):
                        for x in range(-EDGE, EDGE + 1):
                            self.assertEqual(rule_number(ribbon, rule, (p, x)), far[(p, x)])

    def test_of_any_rule_by_the_words(self):
        rows = tuple((3 * at, at * at, 50 - at) for at in range(11))
        for right, left in (((1, 7), (2, 1)), ((5, 1), (5, 9)), ((2, 3), (4, 10 ** 30)), ((4, 4), (3, 3))):
            rule = (5, right, left, rows)
            for p in range(3):
                for x in range(-40, 41):
                    with self.subTest(rule=rule, p=p, x=x):
                        self.assertEqual(rule_number(ZIGZAG, rule, (p, x)), told_by_words(rule, p, x))

    def test_to_sixty_figures(self):
        far = 10 ** 60 - 1
        rule = (1, (1, 1), (1, 1), ((1,), (0,), (1,)))
        self.assertEqual(rule_number(PATH, rule, (0, far)), far)
        self.assertEqual(rule_number(PATH, rule, (0, -far)), far)
        rule = (2, (2, 1), (2, 1), ((1,), (1,), (0,), (1,), (1,)))
        self.assertEqual(rule_number(LEAPS, rule, (0, far)), (far + 1) // 2)
        self.assertEqual(rule_number(LEAPS, rule, (0, far - 1)), far // 2)
        self.assertEqual(rule_number(LEAPS, rule, (0, -far)), (far + 1) // 2)
        rule = (3, (3, 5), (2, 7), tuple((at,) for at in range(7)))
        # 10 ** 60 - 1 is a multiple of 3, so 3 is the first one within, (10 ** 60 - 4) / 3 steps away.
        self.assertEqual(rule_number(PATH, rule, (0, far)), 6 + 5 * ((far - 3) // 3))
        self.assertEqual(rule_number(PATH, rule, (0, -far)), 0 + 7 * ((far - 3) // 2))
        self.assertEqual(rule_number(PATH, rule, (0, 1 - far)), 1 + 7 * ((far - 3) // 2))


class RuleHolds(unittest.TestCase):
    def assertHolds(self, ribbon, start, rule, truth):
        with self.subTest(ribbon=ribbon, start=start, rule=rule):
            self.assertIs(rule_holds(ribbon, start, rule), truth)

    def test_rules_that_hold(self):
        for ribbon in RIBBONS:
            for start in range(ribbon[0]):
                rules = rules_found(ribbon, start)
                self.assertTrue(rules, ribbon)
                for rule in rules[:60] + rules[-5:]:
                    self.assertHolds(ribbon, start, rule, True)

    def test_by_hand(self):
        self.assertHolds(PATH, 0, (1, (1, 1), (1, 1), ((1,), (0,), (1,))), True)
        self.assertHolds(LEAPS, 0, (2, (2, 1), (2, 1), ((1,), (1,), (0,), (1,), (1,))), True)
        self.assertHolds(LADDER, 1, (1, (1, 1), (1, 1), ((2, 1), (1, 0), (2, 1))), True)

    def test_of_another_start(self):
        for ribbon in RIBBONS:
            for start in range(ribbon[0]):
                for other in range(ribbon[0]):
                    if other != start:
                        self.assertHolds(ribbon, other, rules_found(ribbon, start)[0], False)

    def test_the_middle(self):
        for ribbon in RIBBONS:
            for middle, right, left, rows in rules_found(ribbon, 0)[:4]:
                for other in (middle - 1, middle + 1, 0, -1, -middle, 10 ** 60):
                    self.assertHolds(ribbon, 0, (other, right, left, rows), False)
        self.assertHolds(PATH, 0, (0, (1, 1), (1, 1), ((0,),)), False)
        self.assertHolds(PATH, 0, (0, (0, 1), (0, 1), ((0,),)), False)
        self.assertHolds(PATH, 0, (-1, (-1, 1), (-1, 1), ()), False)

    def test_a_step_above_the_middle(self):
        rows = ((2,), (1,), (0,), (1,), (2,))
        for step in (1, 2):
            self.assertHolds(PATH, 0, (2, (step, step), (1, 1), rows), True)
            self.assertHolds(PATH, 0, (2, (1, 1), (step, step), rows), True)
        for step in (3, 4, 5, 10 ** 60):
            self.assertHolds(PATH, 0, (2, (step, step), (1, 1), rows), False)
            self.assertHolds(PATH, 0, (2, (1, 1), (step, step), rows), False)

    def test_a_step_or_a_rise_below_one(self):
        for ribbon in RIBBONS:
            middle, right, left, rows = rules_found(ribbon, 0)[0]
            for low in (0, -1, -middle, -10 ** 60):
                for side in ((low, right[1]), (right[0], low), (low, low)):
                    self.assertHolds(ribbon, 0, (middle, side, left, rows), False)
                    self.assertHolds(ribbon, 0, (middle, right, side, rows), False)

    def test_another_step_or_rise(self):
        for ribbon in RIBBONS:
            for start in range(ribbon[0]):
                held = rules_found(ribbon, start)
                for middle, right, left, rows in held[:8]:
                    for side in itertools.product(range(1, middle + 2), range(1, 8)):
                        for other in ((middle, side, left, rows), (middle, right, side, rows)):
                            self.assertHolds(ribbon, start, other, other in held)

    def test_too_few_or_too_many_rows_or_numbers(self):
        for ribbon in RIBBONS:
            rule = rules_found(ribbon, 0)[0]
            middle, right, left, rows = rule
            last = tuple(number + 1 for number in rows[-1])
            for other in (rows[:-1], rows[1:], rows + (last,), (last,) + rows, rows[1:-1], (), rows + rows):
                self.assertHolds(ribbon, 0, (middle, right, left, other), False)
            for at, row in enumerate(rows):
                for other in (row[:-1], row + (row[-1],), row + (row[-1] + 1,), (), row + row):
                    self.assertHolds(ribbon, 0, with_row(rule, at, other), False)

    def test_a_number_otherwise(self):
        for ribbon in RIBBONS:
            for start in range(ribbon[0]):
                for rule in rules_found(ribbon, start)[:3]:
                    for at, row in enumerate(rule[3]):
                        for p, number in enumerate(row):
                            for other in (number - 1, number + 1, number + 2, 0, -1, -number, 10 ** 60, -10 ** 60):
                                changed = with_row(rule, at, row[:p] + (other,) + row[p + 1:])
                                self.assertHolds(ribbon, start, changed, other == number)

    def test_all_numbers_lower_or_higher(self):
        for by in (-1, 1):
            rows = tuple((number + by,) for number in (1, 0, 1))
            self.assertHolds(PATH, 0, (1, (1, 1), (1, 1), rows), False)

    def test_a_second_place_with_nought(self):
        self.assertHolds(PATH, 0, (2, (1, 1), (1, 1), ((2,), (1,), (0,), (0,), (1,))), False)
        self.assertHolds(PATH, 0, (3, (1, 1), (1, 1), ((3,), (2,), (1,), (0,), (1,), (1,), (0,))), False)
        # Each other clause holds here: two starts, each with its own numbers around it.
        rows = ((4,), (3,), (2,), (1,), (0,), (1,), (1,), (0,), (1,))
        self.assertHolds(PATH, 0, (4, (1, 1), (1, 1), rows), False)
        self.assertHolds((2, ((0, 0, 1), (1, 1, 1))), 0, (1, (1, 1), (1, 1), ((1, 1), (0, 0), (1, 1))), False)

    def test_neighbours_that_differ_by_more(self):
        # By the longer steps too each place is 1 further than the one beside it, but not the least.
        self.assertHolds(LEAPS, 0, (2, (1, 1), (1, 1), ((2,), (1,), (0,), (1,), (2,))), False)
        self.assertHolds(LEAPS, 0, (3, (2, 1), (2, 1), ((2,), (1,), (1,), (0,), (1,), (1,), (2,))), True)
        self.assertHolds(LEAPS, 0, (3, (1, 1), (2, 1), ((2,), (1,), (1,), (0,), (1,), (1,), (2,))), False)
        self.assertHolds(LEAPS, 0, (3, (2, 1), (1, 1), ((2,), (1,), (1,), (0,), (1,), (1,), (2,))), False)

    def test_none_beside_with_one_less_beyond_the_middle(self):
        rows = ((2,), (1,), (0,), (1,), (2,))
        # 0 1 2 | 2 3 3 4 ..: wrong from the first cell beyond the middle on.
        self.assertHolds(PATH, 0, (2, (2, 1), (1, 1), rows), False)
        self.assertHolds(PATH, 0, (2, (1, 1), (2, 1), rows), False)
        rows = ((2,), (1,), (1,), (0,), (1,), (1,), (2,))
        # 0 1 1 2 | 2 2 3 ..: wrong at the second cell beyond the middle, not at the first.
        self.assertHolds(LEAPS, 0, (3, (3, 1), (2, 1), rows), False)
        self.assertHolds(LEAPS, 0, (3, (2, 1), (3, 1), rows), False)

    def test_ribbons_apart(self):
        for ribbon in APART:
            for start in range(ribbon[0]):
                for middle in (1, 2):
                    for numbers in itertools.product(range(3), repeat=ribbon[0]):
                        rows = tuple(
                            tuple(0 if (p, x) == (start, 0) else abs(x) + numbers[p] for p in range(ribbon[0]))
                            for x in range(-middle, middle + 1)
                        )
                        self.assertHolds(ribbon, start, (middle, (1, 1), (1, 1), rows), False)

    def test_what_holds_is_how_far_they_are(self):
        chance = random.Random(11)
        held = 0
        for ribbon in (PATH, LEAPS, LADDER):
            far = searched(ribbon, 0)
            for _ in range(3000):
                middle = chance.randint(1, 2)
                rows = tuple(
                    tuple(max(0, far[(p, x)] + chance.choice((0, 0, 0, 0, 0, 0, 0, 1, -1))) for p in range(ribbon[0]))
                    for x in range(-middle, middle + 1)
                )
                right = (chance.randint(1, middle), chance.randint(1, 2))
                left = (chance.randint(1, middle), chance.randint(1, 2))
                rule = (middle, right, left, rows)
                so = all(
                    told_by_words(rule, p, x) == far[(p, x)] for p in range(ribbon[0]) for x in range(-EDGE, EDGE + 1)
                )
                held += so
                self.assertHolds(ribbon, 0, rule, so)
        self.assertGreater(held, 10)

    def test_other_forms_are_not_let_by(self):
        rows = ((1,), (0,), (1,))
        for rule in (
            [1, (1, 1), (1, 1), rows], (1, [1, 1], (1, 1), rows), (1, (1, 1), [1, 1], rows), (1, (1, 1), (1, 1)),
            (1, (1, 1), (1, 1), list(rows)), (1, (1, 1), (1, 1), ([1], (0,), (1,))), (True, (1, 1), (1, 1), rows),
            (1, (True, 1), (1, 1), rows), (1, (1, 1), (1, True), rows), (1, (1, 1), (1, 1), ((1,), (False,), (1,))),
            (1, (1, 1), (1, 1), rows, 0), (1, (1,), (1, 1), rows), (1, (1, 1), (1, 1, 1), rows), None, (), 5,
        ):
            self.assertHolds(PATH, 0, rule, False)

    def test_of_tuples_of_any_length(self):
        rows = ((1,), (0,), (1,))
        for rule in (
            (1, (1, 1), (1, 1), ()), (1, (1, 1), (1, 1), ((),) * 3), (1, (1, 1), (1, 1), rows * 500),
            (750, (1, 1), (1, 1), rows * 500), (10 ** 60, (10 ** 60, 1), (1, 1), rows), (1, (1, 1), (1, 1), ((),)),
            (0, (0, 0), (0, 0), ()), (-1, (1, 1), (1, 1), ()), (1, (1, 1), (1, 1), ((1, 1), (0, 0), (1, 1))),
        ):
            self.assertHolds(PATH, 0, rule, False)
        middle = 700
        long = tuple((abs(x),) for x in range(-middle, middle + 1))
        self.assertHolds(PATH, 0, (middle, (middle, middle), (1, 1), long), True)


if __name__ == "__main__":
    unittest.main()
