"""Points 11 and 12: the rule of a ribbon, its period and its shells."""

import math
import random
import unittest

from farshells.errors import NotTogether
from farshells.ribbons import rule_holds
from farshells.strips import ribbon_period, ribbon_rule, ribbon_shell
from test_ribbons import (
    APART, BRANCH, EDGE, LADDER, LEAPS, MIXED, PATH, RIBBONS, SKEW, ZIGZAG, all_ties, searched, ties_from,
    told_by_words,
)

# Fast rounds of four places: it is long till the numbers go on evenly.
LATE = (4, ((0, 1, -2), (0, 2, 2), (0, 3, 2), (1, 2, -1), (2, 3, -2)))
# Two rounds of the same speed with unlike steps, 1 and 3, far from one another.
UNLIKE = (4, ((0, 0, 1), (0, 1, 0), (1, 2, -2), (1, 3, 1), (2, 3, 0)))
# Eight ties, the most there can be.
EIGHT = (4, ((0, 1, 2), (0, 2, -1), (0, 3, -2), (1, 1, 2), (1, 3, 1), (1, 3, 2), (2, 2, 1), (3, 3, 1)))


def some_ribbons(many, seed):
    """So many ribbons of one to four places with none to eight ties, always the same ones."""
    chance = random.Random(seed)
    ribbons = []
    for _ in range(many):
        places = chance.randint(1, 4)
        ties = all_ties(places)
        count = chance.randint(0, min(8, len(ties)))
        ribbons.append((places, tuple(sorted(chance.sample(ties, count)))))
    return ribbons


def hangs(ribbon):
    """Whether ways lead to each place of the cells near, by a search in cells up to EDGE twice."""
    far = searched(ribbon, 0)
    return all((p, x) in far for p in range(ribbon[0]) for x in range(-3, 4))


SOME = tuple(some_ribbons(400, seed=12))
TOGETHER = RIBBONS + (LATE, UNLIKE, EIGHT) + tuple(ribbon for ribbon in SOME if hangs(ribbon))


def holds_by_words(ribbon, start, rule):
    """Whether every clause of point 11 is so of the rule."""
    middle, right, left, rows = rule
    if min(right + left) < 1 or max(right[0], left[0]) > middle or len(rows) != 2 * middle + 1:
        return False
    if any(len(row) != ribbon[0] or min(row) < 0 for row in rows):
        return False
    for x in range(-middle - left[0] - 2, middle + right[0] + 3):
        for p in range(ribbon[0]):
            number = told_by_words(rule, p, x)
            beside = [told_by_words(rule, *other) for other in ties_from(ribbon, (p, x))]
            if any(abs(other - number) > 1 for other in beside):
                return False
            if (number == 0) != ((p, x) == (start, 0)):
                return False
            if number != 0 and number - 1 not in beside:
                return False
    return True


def widened(ribbon, rule, more, times_right, times_left):
    """The same numbers told by a rule with a wider middle and longer steps."""
    middle, right, left, rows = rule
    # The first cells that a longer step goes back to must go on evenly too.
    middle += more + max(right[0] * (times_right - 1), left[0] * (times_left - 1))
    right = (right[0] * times_right, right[1] * times_right)
    left = (left[0] * times_left, left[1] * times_left)
    rows = tuple(tuple(told_by_words(rule, p, x) for p in range(ribbon[0])) for x in range(-middle, middle + 1))
    return middle, right, left, rows


def counted(ribbon, rule, n):
    """Shell n by the numbers of all cells that it can be in: each tie goes at most two cells on."""
    cells = range(-2 * n, 2 * n + 1)
    return sum(told_by_words(rule, p, x) == n for x in cells for p in range(ribbon[0]))


class RibbonRule(unittest.TestCase):
    def test_a_rule_that_holds_by_every_clause(self):
        self.assertGreater(len(TOGETHER), 150)
        for ribbon in TOGETHER:
            for start in range(ribbon[0]):
                with self.subTest(ribbon=ribbon, start=start):
                    rule = ribbon_rule(ribbon, start)
                    self.assertTrue(holds_by_words(ribbon, start, rule))
                    self.assertIs(rule_holds(ribbon, start, rule), True)

    def test_its_numbers_are_how_far_places_are(self):
        for ribbon in TOGETHER:
            for start in range(ribbon[0]):
                far = searched(ribbon, start)
                rule = ribbon_rule(ribbon, start)
                numbers = {
                    (p, x): told_by_words(rule, p, x) for p in range(ribbon[0]) for x in range(-EDGE, EDGE + 1)
                }
                with self.subTest(ribbon=ribbon, start=start):
                    self.assertEqual(numbers, {place: far[place] for place in numbers})

    def test_its_form(self):
        for ribbon in TOGETHER[:30]:
            rule = ribbon_rule(ribbon, 0)
            self.assertIs(type(rule), tuple)
            self.assertIs(type(rule[3]), tuple)
            self.assertTrue(all(type(row) is tuple for row in rule[3]))
            self.assertTrue(all(type(side) is tuple and len(side) == 2 for side in rule[1:3]))
            numbers = [rule[0], *rule[1], *rule[2], *(number for row in rule[3] for number in row)]
            self.assertTrue(all(type(number) is int for number in numbers))

    def test_told_again_it_is_the_same(self):
        for ribbon in TOGETHER[:40]:
            for start in range(ribbon[0]):
                self.assertEqual(ribbon_rule(ribbon, start), ribbon_rule(ribbon, start))

    def test_by_hand(self):
        self.assertEqual(ribbon_rule(PATH, 0), (1, (1, 1), (1, 1), ((1,), (0,), (1,))))
        self.assertEqual(ribbon_rule(LADDER, 1), (1, (1, 1), (1, 1), ((2, 1), (1, 0), (2, 1))))
        middle, right, left, rows = ribbon_rule(LEAPS, 0)
        self.assertEqual((right, left), ((2, 1), (2, 1)))

    def test_every_ribbon_of_one_place(self):
        for ties in (((0, 0, 1),), ((0, 0, 1), (0, 0, 2))):
            self.assertTrue(holds_by_words((1, ties), 0, ribbon_rule((1, ties), 0)))
        for ties in ((), ((0, 0, 2),)):
            self.assertRaises(NotTogether, ribbon_rule, (1, ties), 0)

    def test_those_that_do_not_hang_together(self):
        apart = APART + tuple(ribbon for ribbon in SOME if not hangs(ribbon))
        self.assertGreater(len(apart), 100)
        for ribbon in apart:
            for start in range(ribbon[0]):
                with self.subTest(ribbon=ribbon, start=start):
                    self.assertRaises(NotTogether, ribbon_rule, ribbon, start)

    def test_no_ties_places_not_come_to_and_steps_with_a_common_part(self):
        for ribbon in (
            (1, ()), (4, ()), (2, ((0, 0, 1),)), (2, ((1, 1, 1),)), (3, ((0, 0, 1), (0, 2, 1))), (1, ((0, 0, 2),)),
            (2, ((0, 1, 0), (0, 1, 2))), (2, ((0, 1, -1), (0, 1, 1))), (2, ((0, 0, 2), (0, 1, 1), (1, 1, 2))),
            # Its rounds go 3 and 6 cells on.
            (3, ((0, 1, 1), (0, 2, -1), (1, 2, 1))), (2, ((0, 1, -1), (0, 1, 2))), (2, ((0, 1, -2), (0, 1, 2))),
            (4, ((0, 1, 0), (1, 2, 0), (2, 3, 0))), (2, ((0, 0, 1), (1, 1, 1))),
        ):
            for start in range(ribbon[0]):
                with self.subTest(ribbon=ribbon, start=start):
                    self.assertRaises(NotTogether, ribbon_rule, ribbon, start)

    def test_steps_without_a_common_part_though_each_is_above_one(self):
        ribbon = (2, ((0, 0, 2), (0, 1, -1), (0, 1, 2)))
        self.assertTrue(holds_by_words(ribbon, 1, ribbon_rule(ribbon, 1)))


class Periods(unittest.TestCase):
    def rules(self, many):
        for ribbon in TOGETHER[:many]:
            for start in range(ribbon[0]):
                yield ribbon, start, ribbon_rule(ribbon, start)

    def wider(self):
        for ribbon, start, rule in self.rules(24):
            for more, times_right, times_left in ((1, 1, 1), (3, 1, 1), (0, 2, 1), (2, 1, 2), (5, 2, 3)):
                wide = widened(ribbon, rule, more, times_right, times_left)
                self.assertTrue(rule_holds(ribbon, start, wide))
                yield ribbon, start, wide

    def assertPeriod(self, ribbon, rule):
        with self.subTest(ribbon=ribbon, rule=rule):
            told = ribbon_period(ribbon, rule)
            self.assertIs(type(told), tuple)
            first, counts = told
            self.assertIs(type(counts), tuple)
            self.assertEqual(first, 1 + max(max(row) for row in rule[3]))
            self.assertEqual(len(counts), math.lcm(rule[1][1], rule[2][1]))
            for at, count in enumerate(counts):
                self.assertEqual(count, counted(ribbon, rule, first + at))

    def test_of_told_rules(self):
        for ribbon, start, rule in self.rules(60):
            self.assertPeriod(ribbon, rule)

    def test_of_rules_with_a_wider_middle_or_longer_steps(self):
        for ribbon, start, rule in self.wider():
            self.assertPeriod(ribbon, rule)

    def test_by_hand(self):
        self.assertEqual(ribbon_period(PATH, ribbon_rule(PATH, 0)), (2, (2,)))
        self.assertEqual(ribbon_period(LADDER, ribbon_rule(LADDER, 0)), (3, (4,)))
        rule = (6, (2, 2), (3, 3), tuple((abs(x),) for x in range(-6, 7)))
        self.assertEqual(ribbon_period(PATH, rule), (7, (2,) * 6))
        # Each cell is three ties further on and has three places, on two sides.
        self.assertEqual(sum(ribbon_period(ZIGZAG, ribbon_rule(ZIGZAG, 0))[1]), 6)

    def test_shells_near(self):
        for ribbon, start, rule in self.rules(60):
            far = searched(ribbon, start)
            first, counts = ribbon_period(ribbon, rule)
            for n in range(min(first + 2, EDGE // 2)):
                with self.subTest(ribbon=ribbon, rule=rule, n=n):
                    self.assertEqual(ribbon_shell(ribbon, rule, n), list(far.values()).count(n))

    def test_shells_below_at_and_beyond(self):
        for ribbon, start, rule in [*self.rules(20), *self.wider()]:
            first, counts = ribbon_period(ribbon, rule)
            for n in {0, 1, 2, first // 2, first - 1, first, first + 1, first + len(counts)}:
                with self.subTest(ribbon=ribbon, rule=rule, n=n):
                    self.assertEqual(ribbon_shell(ribbon, rule, n), counted(ribbon, rule, n))

    def test_shells_far_out(self):
        for ribbon, start, rule in [*self.rules(40), *self.wider()]:
            first, counts = ribbon_period(ribbon, rule)
            for n in (*range(first, first + 2 * len(counts)), 10 ** 6, 10 ** 60 - 1, 10 ** 60):
                self.assertEqual(ribbon_shell(ribbon, rule, n), counts[(n - first) % len(counts)])

    def test_shells_by_hand(self):
        for n, path, leaps, ladder in ((0, 1, 1, 1), (1, 2, 4, 3), (2, 2, 4, 4), (3, 2, 4, 4), (10 ** 60, 2, 4, 4)):
            self.assertEqual(ribbon_shell(PATH, ribbon_rule(PATH, 0), n), path)
            self.assertEqual(ribbon_shell(LEAPS, ribbon_rule(LEAPS, 0), n), leaps)
            self.assertEqual(ribbon_shell(LADDER, ribbon_rule(LADDER, 1), n), ladder)
        # A comb: one path, and from each cell of it three places in a row.
        rule = ribbon_rule(BRANCH, 0)
        self.assertEqual([ribbon_shell(BRANCH, rule, n) for n in range(6)], [1, 3, 5, 7, 8, 8])
        self.assertEqual(ribbon_shell(BRANCH, rule, 10 ** 60), 8)

    def test_shells_come_to_all_places(self):
        for ribbon in (SKEW, MIXED, LATE, UNLIKE, EIGHT):
            rule = ribbon_rule(ribbon, 0)
            far = searched(ribbon, 0)
            most = min(far[(p, x)] for p in range(ribbon[0]) for x in (-EDGE, EDGE))
            for n in range(most):
                self.assertEqual(ribbon_shell(ribbon, rule, n), list(far.values()).count(n))


if __name__ == "__main__":
    unittest.main()
