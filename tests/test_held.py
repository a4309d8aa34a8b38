"""Points 24 and 25: two rows held against one another, two starts, and the groups of a grid's starts."""

import random
import unittest

from farshells.errors import NotTogether, TooMany
from farshells.held import held_right, rows_held, start_groups, starts_held
from farshells.looking import shells_near
from farshells.rows import row_of, row_shell
from samples import (
    APART, CROOKED, HONEYCOMB, KAGOME, KINGS, OCTAGONS, SQUARES, TRIANGLES, anything, texts_of,
)
from test_cones import HANGERS
from test_finding import BRICKS, BY_MOST, MANY_RAYS, NO_MOST, SOME, WALL, WELL_KNOWN, found
from test_rows import LONGEST, PAIRS
from test_terms import FOUND, SIXTY, WIDE

# Two rows of the least shells there can be, and the shell at which they are parted at last: all ahead of it are
# alike, and no two rows of such periods are alike for longer and still parted.
PARTED_LATE = (
    (((0,), (1,)), ((0,), (0,)), 1),
    (((0, 0), (0, 1)), ((0, 0), (0, 0)), 3),
    (((-1,), (1,)), ((-1, 0), (2, 0)), 3),
    (((2, -2), (-2, 1)), ((2, -2, 0), (-3, 0, 0)), 7),
    (((-3, 0, -1), (3, 1, 1)), ((-3, 0), (2, 0)), 7),
    (((1, 2, -1), (-1, -1, 1)), ((1, 2, -1, 0), (0, -2, 0, 0)), 11),
    (((0, 2, 0, -2), (0, -2, 0, 1)), ((0, 2, 0, -2, 0, 0), (0, -3, 0, 0, 0, 0)), 15),
    (((0, -1), (0, 1)), ((0, -1, 0, 0), (0, 2, 0, 0)), 7),
)


def fewest(shells, rises):
    """The row with as few shells as can be that goes on as this one."""
    shells, period = list(shells), len(rises)
    while len(shells) > period and shells[-1] == shells[-1 - period] + rises[(len(shells) - 1) % period]:
        shells.pop()
    return tuple(shells), tuple(rises)


def gone_on(row, many):
    """So many shells of a row, each later one by the one a period ahead."""
    shells, rises = list(row[0]), row[1]
    while len(shells) < many:
        shells.append(shells[-len(rises)] + rises[len(shells) % len(rises)])
    return shells[:many]


def with_period(row, times):
    """The same shells for ever, told by a period so many times as long."""
    period = len(row[1]) * times
    return fewest(gone_on(row, len(row[0]) + period), [row[1][n % len(row[1])] * times for n in range(period)])


def behind(ahead, row):
    """The row that has some shells ahead of all shells of this one."""
    period = len(row[1])
    rises = [row[1][(n - len(ahead)) % period] for n in range(period)]
    return fewest(list(ahead) + list(row[0]), rises)


def enough_by_words(one, other):
    periods = [len(one[1]), len(other[1])]
    return max(len(one[0]), len(other[0])) - min(periods) + 2 * sum(periods)


def held_by_words(one, other):
    """What is told of two rows, by many more shells than must be looked at."""
    many = 3 * enough_by_words(one, other) + 50
    for n, (left, right) in enumerate(zip(gone_on(one, many), gone_on(other, many))):
        if left != right:
            return "parted", n, left, right
    return "alike", enough_by_words(one, other)


def some_rows(many, seed):
    """So many rows of whole numbers, above and below 0, some of them great."""
    chance = random.Random(seed)
    rows = []
    for _ in range(many):
        period = chance.randint(1, 6)
        size = chance.choice((1, 2, 9, 10 ** 59))
        shells = [chance.randint(-size, size) for _ in range(period + chance.choice((0, 0, 1, 2, 5, 9)))]
        rows.append(fewest(shells, [chance.randint(-size, size) for _ in range(period)]))
    return rows


ROWS = some_rows(60, seed=24)
# Rows of every sort, and ones that part from them at any shell.
PAIRS_OF_ROWS = (
    [(row, row) for row in ROWS] + list(zip(ROWS, ROWS[1:]))
    + [(row, with_period(row, times)) for row in ROWS for times in (2, 3)]
    + [(with_period(row, 2), with_period(row, 3)) for row in ROWS[:20]]
    + [(behind(ROWS[at][0], one), behind(ROWS[at][0], other)) for at in range(20) for one, other, n in PARTED_LATE]
    + [(one, other) for one, other, n in PARTED_LATE]
)


class Held(unittest.TestCase):
    def assertHeld(self, one, other):
        told = held_by_words(one, other)
        turned = told[:2] + told[:1:-1]
        with self.subTest(one=one, other=other):
            self.assertEqual(rows_held(one, other), told)
            self.assertEqual(rows_held(other, one), turned)
            self.assertIs(held_right(one, other, told), True)
            self.assertIs(held_right(other, one, turned), True)
            self.assertEqual({type(number) for number in rows_held(one, other)[1:]}, {int})
            self.assertIs(type(rows_held(one, other)), tuple)

    def test_by_hand(self):
        squares, triangles = ((1, 4), (4,)), ((1, 6), (6,))
        self.assertEqual(rows_held(squares, squares), ("alike", 5))
        self.assertEqual(rows_held(squares, triangles), ("parted", 1, 4, 6))
        self.assertEqual(rows_held(triangles, squares), ("parted", 1, 6, 4))
        self.assertEqual(rows_held(((2, 4), (4,)), squares), ("parted", 0, 2, 1))
        # The same shells by a period of 3: the longer has 4 shells, the lesser period is 1.
        self.assertEqual(rows_held(squares, ((1, 4, 8, 12), (12, 12, 12))), ("alike", 11))
        self.assertEqual(rows_held(((1, 4, 8, 12), (12, 12, 12)), squares), ("alike", 11))
        self.assertEqual(rows_held(squares, ((1, 4, 8, 12), (12, 12, 11))), ("parted", 5, 20, 19))

    def test_the_same(self):
        for row in ROWS:
            self.assertEqual(rows_held(row, row), ("alike", len(row[0]) + 3 * len(row[1])))

    def test_alike_by_unlike_periods(self):
        for row in ROWS:
            for times in (2, 3, 5):
                self.assertHeld(row, with_period(row, times))
                self.assertEqual(rows_held(row, with_period(row, times))[0], "alike")
            self.assertEqual(rows_held(with_period(row, 2), with_period(row, 3))[0], "alike")

    def test_alike_with_longer_shells_of_one(self):
        longer = [row for row in ROWS if len(row[0]) > 2 * len(row[1])]
        self.assertGreater(len(longer), 3)
        for row in longer:
            # The row of twice the period has as many shells as it must, which may be fewer or more.
            self.assertHeld(row, with_period(row, 2))
        # More shells with the lesser period, more shells with the greater one.
        self.assertEqual(rows_held(((7, 0, 0, 1), (1,)), ((7, 0, 0, 1), (2, 2))), ("alike", 9))
        self.assertEqual(rows_held(((0,), (1,)), ((0, 1, 2, 3), (4, 4, 4, 4))), ("alike", 13))

    def test_parted_at_each_shell(self):
        for row in ROWS[:20]:
            shells, rises = row
            for at in range(len(shells)):
                other = fewest(shells[:at] + (shells[at] + 1,) + shells[at + 1:], rises)
                self.assertHeld(row, other)
                self.assertEqual(rows_held(row, other), ("parted", at, shells[at], shells[at] + 1))
            for at in range(len(rises)):
                other = fewest(shells, rises[:at] + (rises[at] - 1,) + rises[at + 1:])
                self.assertHeld(row, other)
                # Unlike in a rise alone, they part behind the shells of both.
                if len(other[0]) == len(shells):
                    self.assertGreaterEqual(rows_held(row, other)[1], len(shells))

    def test_parted_at_the_last_shell_that_tells(self):
        for one, other, n in PARTED_LATE:
            self.assertHeld(one, other)
            self.assertEqual(rows_held(one, other)[:2], ("parted", n))
            for ahead in ((5,), (1, 1), (9, -9, 9), (0, 1, 3, 7, 20, 55, 10 ** 60)):
                late = behind(ahead, one), behind(ahead, other)
                self.assertHeld(*late)
                self.assertEqual(rows_held(*late)[:2], ("parted", n + len(ahead)))
                self.assertLess(n + len(ahead), enough_by_words(*late))

    def test_drawn_ones(self):
        for one, other in PAIRS_OF_ROWS:
            self.assertHeld(one, other)

    def test_small_rows_of_all_kinds(self):
        numbers = (-1, 0, 1)
        rows = [((a,), (b,)) for a in numbers for b in numbers]
        rows += [fewest((a, b), (c, d)) for a in numbers for b in numbers for c in numbers for d in numbers]
        for one in rows:
            for other in rows[::5]:
                self.assertHeld(one, other)

    def test_rows_that_papers_tell(self):
        rows = [row_of(grid, paper) for grid, start, paper in FOUND[:30] + WIDE]
        for one, other in zip(rows, rows[1:] + rows[:1]):
            self.assertHeld(one, other)
        longest = row_of(PAIRS, LONGEST)
        self.assertEqual(rows_held(longest, rows[0]), ("alike", 2001 - 1 + 4000 + 2))
        self.assertEqual(rows_held(longest, longest), ("alike", 2001 - 2000 + 8000))


class Right(unittest.TestCase):
    def test_one_thing_changed(self):
        for one, other in PAIRS_OF_ROWS[::3]:
            told = rows_held(one, other)
            wrong = [("parted" if told[0] == "alike" else "alike",) + told[1:]]
            wrong += [(text,) + told[1:] for text in ("", "Alike", "alike ", "Parted", "apart", "partedd")]
            for at in range(1, len(told)):
                for number in (told[at] - 1, told[at] + 1, -told[at] - 1, told[at] + 10 ** 60):
                    wrong.append(told[:at] + (number,) + told[at + 1:])
                wrong.append(told[:at] + told[at + 1:])
                wrong.append(told[:at] + told[at:at + 1] + told[at:])
            wrong += [told + (0,), told[:1], (), told[1:], told + told]
            if told[0] == "parted":
                wrong += [told[:2] + told[:1:-1], ("alike", told[1]), ("alike", enough_by_words(one, other))]
            else:
                wrong += [("parted", told[1], 0, 0), ("parted", 0, one[0][0], other[0][0])]
            for thing in wrong:
                self.assertIs(held_right(one, other, thing), False, (one, other, thing))
            self.assertIs(held_right(one, other, told), True)

    def test_truths_are_no_numbers(self):
        one, other = ((0, 1), (4,)), ((0, 0), (4,))
        self.assertEqual(rows_held(one, other), ("parted", 1, 1, 0))
        self.assertIs(held_right(one, other, ("parted", 1, 1, 0)), True)
        for wrong in (("parted", True, 1, 0), ("parted", 1, True, 0), ("parted", 1, 1, False)):
            self.assertIs(held_right(one, other, wrong), False)
        alike = ((-3,), (0,)), ((-3,), (0,))
        self.assertEqual(rows_held(*alike), ("alike", 4))
        self.assertIs(held_right(*alike, ("alike", True)), False)

    def test_other_things(self):
        for thing in anything() + [["alike", 5], ("alike", "5"), ("alike", (5,)), ("alike", [5]), (5, "alike")]:
            self.assertIs(held_right(((1, 4), (4,)), ((1, 4), (4,)), thing), False)
        self.assertIs(held_right(((1, 4), (4,)), ((1, 4), (4,)), ("alike", 5)), True)


class Starts(unittest.TestCase):
    def test_by_hand(self):
        self.assertEqual(starts_held(SQUARES, 0, SQUARES, 0), ("alike", 5))
        self.assertEqual(starts_held(SQUARES, 0, TRIANGLES, 0), ("parted", 1, 4, 6))
        self.assertEqual(starts_held(KAGOME, 2, SQUARES, 0), ("parted", 3, 14, 12))
        self.assertEqual(starts_held(BRICKS, 0, HONEYCOMB, 1), ("alike", 3 + 3 * 2))
        # A row of the one period and one of twice that, of the same grid told otherwise.
        self.assertEqual(starts_held(SQUARES, 0, PAIRS, 1), ("alike", 3 - 1 + 2 + 4))
        self.assertEqual(starts_held(PAIRS, 0, SQUARES, 0), ("alike", 3 - 1 + 2 + 4))
        self.assertEqual(starts_held(HANGERS, 0, HANGERS, 1), ("parted", 1, 5, 1))

    def test_by_the_rows(self):
        for (grid, start, paper), (other, second, page) in zip(FOUND, FOUND[1:] + FOUND[:1]):
            told = held_by_words(row_of(grid, paper), row_of(other, page))
            self.assertEqual(starts_held(grid, start, other, second), told)

    def test_as_looks_part(self):
        for grid, start, paper in FOUND[:30]:
            for other in (SQUARES, KAGOME, OCTAGONS):
                told = starts_held(grid, start, other, 0)
                near = shells_near(grid, start, 12), shells_near(other, 0, 12)
                unlike = [n for n in range(13) if near[0][n] != near[1][n]]
                if unlike:
                    self.assertEqual(told, ("parted", unlike[0], near[0][unlike[0]], near[1][unlike[0]]))
                elif told[0] == "parted":
                    self.assertGreater(told[1], 12)

    def test_refused(self):
        for grid in APART:
            self.assertRaises(NotTogether, starts_held, grid, 0, SQUARES, 0)
            self.assertRaises(NotTogether, starts_held, SQUARES, 0, grid, grid[0] - 1)
            self.assertRaises(NotTogether, starts_held, grid, 0, grid, 0)
        for grid in (CROOKED, MANY_RAYS, NO_MOST[0]):
            self.assertRaises(TooMany, starts_held, grid, 0, SQUARES, 0)
            self.assertRaises(TooMany, starts_held, SQUARES, 0, grid, 0)

    def test_the_first_grid_goes_first(self):
        for grid in (CROOKED, MANY_RAYS, NO_MOST[0]):
            for other in APART:
                self.assertRaises(TooMany, starts_held, grid, 0, other, 0)
                self.assertRaises(NotTogether, starts_held, other, 0, grid, 0)


class Groups(unittest.TestCase):
    def test_by_hand(self):
        for grid in (SQUARES, KINGS, BRICKS, WALL, HONEYCOMB, KAGOME, OCTAGONS, PAIRS):
            self.assertEqual(start_groups(grid), [tuple(range(grid[0]))])
        self.assertEqual(start_groups(HANGERS), [(0,), (1,)])
        # Squares with two places hanging at each: these are alike.
        self.assertEqual(start_groups((3, ((0, 0, 0, 1), (0, 0, 1, 0), (0, 1, 0, 0), (0, 2, 0, 0)))), [(0,), (1, 2)])
        self.assertEqual(start_groups((3, ((0, 1, 0, 0), (1, 1, 0, 1), (1, 1, 1, 0), (1, 2, 0, 0)))), [(0, 2), (1,)])

    def test_by_the_words(self):
        sizes = set()
        for grid in SOME + WELL_KNOWN + (HANGERS,) + tuple(grid for most, grid, start in BY_MOST):
            papers = [found(grid, start) for start in range(grid[0])]
            if None in papers:
                self.assertRaises(TooMany, start_groups, grid)
                continue
            told = start_groups(grid)
            rows = [row_of(grid, paper) for paper in papers]
            with self.subTest(grid):
                self.assertIs(type(told), list)
                self.assertTrue(all(type(group) is tuple and list(group) == sorted(set(group)) for group in told))
                self.assertEqual(told, sorted(told))
                self.assertEqual(sorted(start for group in told for start in group), list(range(grid[0])))
                of = {start: at for at, group in enumerate(told) for start in group}
                for one in range(grid[0]):
                    for other in range(grid[0]):
                        alike = held_by_words(rows[one], rows[other])[0] == "alike"
                        self.assertEqual(of[one] == of[other], alike)
            sizes.add(tuple(map(len, told)))
        self.assertGreater(len(sizes), 4)

    def test_refused(self):
        for grid in APART:
            self.assertRaises(NotTogether, start_groups, grid)
        for grid in (CROOKED, MANY_RAYS) + NO_MOST:
            self.assertRaises(TooMany, start_groups, grid)


class Kept(unittest.TestCase):
    def test_told_again_it_is_the_same(self):
        for one, other in PAIRS_OF_ROWS[::7]:
            texts = texts_of((one, other))
            told = rows_held(one, other)
            self.assertIs(held_right(one, other, told), True)
            self.assertEqual(rows_held(one, other), told)
            self.assertEqual(texts_of((one, other)), texts)
        for grid in WELL_KNOWN + (HANGERS,):
            told = start_groups(grid)
            told.append("more")
            self.assertEqual(start_groups(grid), told[:-1])
            self.assertEqual(starts_held(grid, 0, SQUARES, 0), starts_held(grid, 0, SQUARES, 0))

    def test_far_shells_of_what_is_alike(self):
        for one, other in PAIRS_OF_ROWS:
            if rows_held(one, other)[0] == "alike":
                for n in (100, 101, 10 ** 30, SIXTY):
                    self.assertEqual(row_shell(one, n), row_shell(other, n))


if __name__ == "__main__":
    unittest.main()
