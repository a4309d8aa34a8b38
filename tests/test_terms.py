"""Point 21, with 4: the terms of papers of cones, shells and all within, for every n."""

import collections
import functools
import itertools
import math
import unittest

from farshells.cones import cones_hold
from farshells.looking import shells_near
from farshells.shape import rays_of
from farshells.terms import all_within, paper_terms, shell_far
from samples import HONEYCOMB, KAGOME, KINGS, SQUARES, TRIANGLES, texts_of, ties_from
from test_cones import FOUR, HANGERS, UNEVEN, paper_of
from test_finding import BRICKS, BY_MOST, SOME, WELL_KNOWN, found

SIXTY = 10 ** 60
# Two steps of (1, 0) at once, so that no two sides of a table go on alike.
LONG_STEP = (((2, 0), 2), ((0, 1), 1), ((-1, 0), 1), ((0, -1), 1))


def found_papers():
    """(grid, start, paper) of known and drawn grids, each start of which a paper is found."""
    grids = WELL_KNOWN + (HANGERS,) + tuple(grid for most, grid, start in BY_MOST) + SOME
    told = [(grid, start, found(grid, start)) for grid in grids for start in range(grid[0])]
    return tuple(one for one in told if one[2] is not None)


def wide_papers():
    """Papers with wider tables, or more and longer rays, than need be."""
    wider = [
        (grid, start, paper_of(grid, start, rays_of(grid), most))
        for grid in (SQUARES, TRIANGLES, KINGS, HONEYCOMB, KAGOME, HANGERS) for start in range(grid[0])
        for most in (2, 3)
    ]
    uneven = [(SQUARES, 0, paper_of(SQUARES, 0, rays, most)) for rays in (UNEVEN, LONG_STEP) for most in range(4)]
    return tuple(wider + uneven)


FOUND = found_papers()
WIDE = wide_papers()


@functools.cache
def searched_shells(grid, start, n):
    """Shells from 0 to n by a search: what is beside a shell and in neither of the two last ones is the next one."""
    ahead, shell, counts = set(), {(start, 0, 0)}, [1]
    for _ in range(n):
        beside = {other for place in shell for other in ties_from(grid, place)}
        ahead, shell = shell, beside - shell - ahead
        counts.append(len(shell))
    return tuple(counts)


def terms_by_words(paper):
    """Each term, and how many of them there are."""
    most, rays, home, cones = paper
    terms = collections.Counter((number, ()) for number in home)
    for at, cone in enumerate(cones):
        one, other = rays[at][1], rays[(at + 1) % len(rays)][1]
        for tables in cone:
            for table in tables:
                for i in range(most + 1):
                    for j in range(most + 1):
                        steps = ([one] if i == most else []) + ([other] if j == most else [])
                        terms[(table[i][j], tuple(sorted(steps)))] += 1
    return sorted(terms.items())


def has_number(term, n):
    """How often a term has the number n, counted one by one."""
    first, steps = term
    rests = [n - first]
    for step in steps:
        rests = [rest - step * times for rest in rests for times in range(max(rest, -1) // step + 1)]
    return rests.count(0)


def far_on(shells, period, n):
    """(shell n, all within n) by near shells that go on by the period, each rest by the rise it has at last."""
    whole, within = None, 0
    for rest in range(period):
        known = list(shells[rest::period])
        rise = known[-1] - known[-2]
        # So many shells with this rest are at most n; beyond the known ones they go on by the rise.
        many = (n - rest) // period + 1 if n >= rest else 0
        more = max(0, many - len(known))
        within += sum(known[:many]) + more * known[-1] + rise * more * (more + 1) // 2
        if many and (n - rest) % period == 0:
            whole = known[many - 1] if more == 0 else known[-1] + rise * more
    return whole, within


class Terms(unittest.TestCase):
    def test_by_hand(self):
        self.assertEqual(paper_terms(SQUARES, paper_of(SQUARES, 0, FOUR, 0)), [((0, ()), 1), ((1, (1, 1)), 4)])
        self.assertEqual(paper_terms(SQUARES, paper_of(SQUARES, 0, FOUR, 1)), [
            ((0, ()), 1), ((1, ()), 4), ((2, (1,)), 8), ((3, (1, 1)), 4),
        ])
        # The table of two steps ahead goes on by 2 on the one side, that of two steps behind on the other.
        self.assertEqual(paper_terms(SQUARES, paper_of(SQUARES, 0, LONG_STEP, 1)), [
            ((0, ()), 1), ((1, ()), 4), ((2, ()), 2), ((2, (1,)), 6), ((3, (1,)), 2), ((3, (1, 1)), 2),
            ((3, (2,)), 2), ((4, (1, 2)), 2), ((4, (2,)), 2), ((5, (1, 2)), 2),
        ])

    def test_at_the_edge_of_a_table(self):
        # Numbers that tell where they stand: the first table's are below ten.
        rays = (((1, 0), 7), ((0, 1), 5), ((-1, -1), 3))
        table = ((1, 2), (3, 4))
        other = ((11, 12), (13, 14))
        last = ((21, 22), (23, 24))
        paper = (1, rays, (0,), tuple(((one,),) for one in (table, other, last)))
        self.assertEqual(paper_terms(SQUARES, paper), [
            ((0, ()), 1), ((1, ()), 1), ((2, (5,)), 1), ((3, (7,)), 1), ((4, (5, 7)), 1),
            ((11, ()), 1), ((12, (3,)), 1), ((13, (5,)), 1), ((14, (3, 5)), 1),
            ((21, ()), 1), ((22, (7,)), 1), ((23, (3,)), 1), ((24, (3, 7)), 1),
        ])

    def test_by_the_words(self):
        for grid, start, paper in FOUND + WIDE:
            with self.subTest(grid=grid, start=start, most=paper[0]):
                self.assertEqual(paper_terms(grid, paper), terms_by_words(paper))

    def test_their_form(self):
        for grid, start, paper in FOUND + WIDE:
            told = paper_terms(grid, paper)
            self.assertIs(type(told), list)
            terms = [term for term, many in told]
            self.assertTrue(all(one < other for one, other in zip(terms, terms[1:])))
            for pair in told:
                self.assertEqual([type(part) for part in pair], [tuple, int])
                (first, steps), many = pair
                self.assertEqual((type(first), type(steps)), (int, tuple))
                self.assertGreater(many, 0)
                self.assertLessEqual(len(steps), 2)
                self.assertEqual(list(steps), sorted(steps))
                self.assertLessEqual(set(steps), {ties for step, ties in paper[1]})

    def test_how_many(self):
        for grid, start, paper in FOUND + WIDE:
            most, rays, home, cones = paper
            tables = sum(len(tables) for cone in cones for tables in cone)
            many = collections.Counter()
            for (first, steps), often in paper_terms(grid, paper):
                many[len(steps)] += often
            self.assertEqual(
                [many[0], many[1], many[2]], [grid[0] + tables * most * most, tables * 2 * most, tables]
            )


class Shells(unittest.TestCase):
    def test_the_wide_ones_hold(self):
        for grid, start, paper in WIDE:
            self.assertIs(cones_hold(grid, start, paper), True)

    def test_near_as_a_search_counts(self):
        for grid, start, paper in FOUND + WIDE:
            shells = searched_shells(grid, start, 18)
            self.assertEqual(list(shells[:13]), shells_near(grid, start, 12))
            with self.subTest(grid=grid, start=start, most=paper[0]):
                self.assertEqual([shell_far(grid, paper, n) for n in range(19)], list(shells))
                self.assertEqual([all_within(grid, paper, n) for n in range(19)], list(itertools.accumulate(shells)))

    def test_as_the_terms_have_them(self):
        # Steps of 6 and 4 have 2 in common, so every other number is none of theirs.
        evens = (((1, 0), 1), ((0, 6), 6), ((-4, 0), 4), ((0, -1), 1))
        for grid, start, paper in FOUND[:12] + WIDE[-8:] + ((SQUARES, 0, paper_of(SQUARES, 0, evens, 0)),):
            terms = paper_terms(grid, paper)
            within = 0
            for n in range(50):
                shell = sum(many * has_number(term, n) for term, many in terms)
                within += shell
                self.assertEqual((shell_far(grid, paper, n), all_within(grid, paper, n)), (shell, within))

    def test_nought(self):
        for grid, start, paper in FOUND + WIDE:
            self.assertEqual((shell_far(grid, paper, 0), all_within(grid, paper, 0)), (1, 1))

    def test_known_ones_for_ever(self):
        for n in (1, 2, 3, 12, 13, 999, 10 ** 20, 10 ** 59 + 7, SIXTY - 1, SIXTY):
            for grid, times in ((SQUARES, 4), (TRIANGLES, 6), (KINGS, 8), (BRICKS, 3), (HONEYCOMB, 3)):
                for start in range(grid[0]):
                    paper = found(grid, start)
                    self.assertEqual(shell_far(grid, paper, n), times * n)
                    self.assertEqual(all_within(grid, paper, n), 1 + times * n * (n + 1) // 2)

    def test_far_on_as_near_shells_go_on(self):
        seen = collections.Counter()
        for grid, start, paper in FOUND + WIDE:
            period = math.lcm(*[ties for step, ties in paper[1]])
            last = max(first for (first, steps), many in paper_terms(grid, paper))
            # By then all numbers have begun, and two whole periods are behind that.
            if last + 2 * period > 45:
                continue
            shells = searched_shells(grid, start, last + 2 * period)
            seen[period] += 1
            for n in (0, 1, last, last + 2 * period + 1, 77, 78, 1000, 1001, 10 ** 30 + 1, SIXTY - 1, SIXTY):
                with self.subTest(grid=grid, start=start, most=paper[0], n=n):
                    self.assertEqual(
                        (shell_far(grid, paper, n), all_within(grid, paper, n)), far_on(shells, period, n)
                    )
        self.assertGreater(len(seen), 3)
        self.assertGreater(sum(seen.values()), 50)

    def test_within_rises_by_the_shell(self):
        for grid, start, paper in FOUND + WIDE:
            for n in (1, 40, 41, 10 ** 25 + 3, SIXTY - 1, SIXTY):
                self.assertEqual(
                    all_within(grid, paper, n) - all_within(grid, paper, n - 1), shell_far(grid, paper, n)
                )

    def test_wider_tables_tell_the_same(self):
        for grid, start, paper in WIDE:
            narrow = found(grid, start)
            for n in (0, 1, 2, 5, 30, 31, 10 ** 40 + 1, SIXTY):
                self.assertEqual(shell_far(grid, paper, n), shell_far(grid, narrow, n))
                self.assertEqual(all_within(grid, paper, n), all_within(grid, narrow, n))


class Kept(unittest.TestCase):
    def test_told_again_it_is_the_same(self):
        for grid, start, paper in FOUND[:20] + WIDE:
            texts = texts_of((grid, paper))
            first = paper_terms(grid, paper), shell_far(grid, paper, 31), all_within(grid, paper, 31)
            told = paper_terms(grid, paper)
            told.append("more")
            self.assertEqual((paper_terms(grid, paper), shell_far(grid, paper, 31), all_within(grid, paper, 31)), first)
            self.assertEqual(texts_of((grid, paper)), texts)
            self.assertIsNot(paper_terms(grid, paper), paper_terms(grid, paper))

    def test_whole_numbers_are_told(self):
        for grid, start, paper in FOUND[:20]:
            for n in (0, 1, SIXTY):
                self.assertIs(type(shell_far(grid, paper, n)), int)
                self.assertIs(type(all_within(grid, paper, n)), int)


if __name__ == "__main__":
    unittest.main()
