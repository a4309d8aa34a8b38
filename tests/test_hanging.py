"""Point 8: whether a grid hangs together, and what shows it."""

import copy
import unittest

from farshells.hanging import hanging_of, hanging_right
from samples import (
    APART, BARE, BARE_FOUR, CHECKERS, EVEN_ROUNDS, EVEN_SUMS, HONEYCOMB, KAGOME, LINES, LONE_PLACE,
    SQUARES, THIRDS, TOGETHER, TWO_LAYERS, is_walked, some_grids, ties_from,
)

SOME = tuple(some_grids(400, seed=5))


def ways_show(grid, ways):
    """Whether ways show that the grid hangs together, by the words of point 8."""
    if len(ways) != grid[0] - 1 + 2:
        return False
    for way in ways:
        if not is_walked(grid, way) or way[0] != (0, 0, 0):
            return False
    for p in range(1, grid[0]):
        if ways[p - 1][-1][0] != p:
            return False
    return ways[-2][-1] == (0, 1, 0) and ways[-1][-1] == (0, 0, 1)


def rest_of(paper, place):
    m, x, y, marks = paper
    return (x * place[1] + y * place[2] + marks[place[0]]) % m


def marks_show(grid, paper):
    """Whether marks show that the grid does not hang together, by the words of point 8."""
    m, x, y, marks = paper
    if m < 2 or len(marks) != grid[0]:
        return False
    for p in range(grid[0]):
        for other in ties_from(grid, (p, 0, 0)):
            if rest_of(paper, other) != rest_of(paper, (p, 0, 0)):
                return False
    corners = [(0, 0, 0), (0, 1, 0), (0, 0, 1)] + [(p, 0, 0) for p in range(grid[0])]
    return len({rest_of(paper, place) for place in corners}) > 1


class Hanging(unittest.TestCase):
    def test_those_that_hang_together(self):
        for grid in TOGETHER:
            with self.subTest(grid):
                told = hanging_of(grid)
                self.assertIs(type(told), tuple)
                self.assertIs(told[0], True)
                self.assertIs(type(told[1]), list)
                self.assertTrue(all(type(way) is list for way in told[1]))
                self.assertTrue(ways_show(grid, told[1]))

    def test_those_that_do_not(self):
        for grid in APART:
            with self.subTest(grid):
                truth, paper = hanging_of(grid)
                self.assertIs(truth, False)
                self.assertIs(type(paper), tuple)
                self.assertIs(type(paper[3]), tuple)
                self.assertTrue(marks_show(grid, paper))

    def test_some_of_every_kind(self):
        truths = []
        for grid in SOME:
            with self.subTest(grid):
                truth, paper = hanging_of(grid)
                truths.append(truth)
                self.assertTrue(ways_show(grid, paper) if truth else marks_show(grid, paper))
                self.assertIs(hanging_right(grid, (truth, paper)), True)
        self.assertGreater(truths.count(True), 50)
        self.assertGreater(truths.count(False), 50)

    def test_what_is_told_is_right(self):
        for grid in TOGETHER + APART:
            with self.subTest(grid):
                self.assertIs(hanging_right(grid, hanging_of(grid)), True)

    def test_what_is_told_is_the_askers_own(self):
        for grid in TOGETHER:
            told = hanging_of(grid)
            kept = copy.deepcopy(told)
            self.assertEqual(len({id(way) for way in told[1]}), len(told[1]))
            told[1][0].append("more")
            told[1][-1].clear()
            told[1].pop(0)
            self.assertEqual(hanging_of(grid), kept)
        for grid in APART:
            self.assertEqual(hanging_of(grid), hanging_of(grid))


class WaysRight(unittest.TestCase):
    def assertRight(self, grid, told, truth):
        before = copy.deepcopy(told)
        with self.subTest(grid=grid, told=told):
            self.assertIs(hanging_right(grid, told), truth)
            self.assertEqual(told, before)

    def test_tuples_may_be_handed_in(self):
        for grid in TOGETHER:
            ways = hanging_of(grid)[1]
            self.assertRight(grid, (True, tuple(ways)), True)
            self.assertRight(grid, (True, [tuple(way) for way in ways]), True)
            self.assertRight(grid, (True, tuple(tuple(way) for way in ways)), True)

    def test_other_ways(self):
        right = [(0, 0, 0), (0, 0, -1), (0, 1, -1), (0, 1, 0)]
        up = [(0, 0, 0), (0, 0, 1), (0, 0, 0), (0, 0, 1)]
        self.assertRight(SQUARES, (True, [right, up]), True)
        ways = hanging_of(HONEYCOMB)[1]
        for end in ((1, 0, 0), (1, -1, 0), (1, 0, -1)):
            self.assertRight(HONEYCOMB, (True, [[(0, 0, 0), end]] + ways[1:]), True)
        longer = [(0, 0, 0), (1, 0, 0), (0, 0, 1), (1, 0, 1)]
        self.assertRight(HONEYCOMB, (True, [longer] + ways[1:]), True)

    def test_the_other_truth(self):
        for grid in TOGETHER + APART:
            truth, paper = hanging_of(grid)
            self.assertRight(grid, (not truth, paper), False)

    def test_marks_beside_true_and_ways_beside_false(self):
        for grid in TOGETHER + APART:
            for marks in ((), (0,), (0, 1), (0, 0, 1), (0, 1, 0, 1)):
                for m in (2, 3):
                    self.assertRight(grid, (True, (m, 1, 0, marks)), False)
            for ways in ([], (), [[]], [[(0, 0, 0)]] * 4, ([(0, 0, 0)],) * 4, [[(0, 0, 0), (0, 1, 0)]] * 2):
                self.assertRight(grid, (False, ways), False)

    def test_a_way_left_out_put_in_or_exchanged(self):
        for grid in TOGETHER:
            ways = hanging_of(grid)[1]
            for at in range(len(ways)):
                self.assertRight(grid, (True, ways[:at] + ways[at + 1:]), False)
                self.assertRight(grid, (True, ways[:at] + ways[at:at + 1] + ways[at:]), False)
                for behind in range(at):
                    other = list(ways)
                    other[at], other[behind] = other[behind], other[at]
                    self.assertRight(grid, (True, other), False)
            self.assertRight(grid, (True, []), False)
            self.assertRight(grid, (True, [[(0, 0, 0)]] + ways), False)

    def test_an_empty_way(self):
        for grid in TOGETHER:
            ways = hanging_of(grid)[1]
            for at in range(len(ways)):
                self.assertRight(grid, (True, ways[:at] + [[]] + ways[at + 1:]), False)
                self.assertRight(grid, (True, ways[:at] + [()] + ways[at + 1:]), False)

    def test_a_place_otherwise(self):
        for grid in TOGETHER:
            ways = hanging_of(grid)[1]
            for at, way in enumerate(ways):
                for by, (p, x, y) in enumerate(way):
                    for place in ((p, x + 7, y), (p, x, y - 7), (p + 4, x, y), (-1, x, y), (p, 10 ** 30, y)):
                        other = way[:by] + [place] + way[by + 1:]
                        self.assertRight(grid, (True, ways[:at] + [other] + ways[at + 1:]), False)
                if len(way) > 2:
                    self.assertRight(grid, (True, ways[:at] + [way[:1] + way[2:]] + ways[at + 1:]), False)
                self.assertRight(grid, (True, ways[:at] + [way[:-1]] + ways[at + 1:]), False)

    def test_ways_that_begin_or_end_elsewhere(self):
        up = [(0, 0, 0), (0, 0, 1)]
        self.assertRight(SQUARES, (True, [[(0, 1, 0)], up]), False)
        self.assertRight(SQUARES, (True, [[(0, 1, 1), (0, 1, 0)], up]), False)
        self.assertRight(SQUARES, (True, [[(0, 0, 0), (0, -1, 0)], up]), False)
        self.assertRight(SQUARES, (True, [[(0, 0, 0), (0, 1, 0)], [(0, 0, 0), (0, 0, -1)]]), False)
        self.assertRight(SQUARES, (True, [[(0, 0, 0), (0, 1, 0)], [(0, 0, 0), (0, 1, 0)]]), False)
        self.assertRight(SQUARES, (True, [[(0, 0, 0), (0, 1, 0), (0, 2, 0)], up]), False)
        ways = hanging_of(KAGOME)[1]
        self.assertRight(KAGOME, (True, [ways[0], ways[0]] + ways[2:]), False)
        self.assertRight(KAGOME, (True, [ways[1], ways[1]] + ways[2:]), False)

    def test_other_forms_are_not_let_by(self):
        for grid in TOGETHER + APART:
            truth, paper = hanging_of(grid)
            for told in ([truth, paper], (truth,), (truth, paper, paper), (int(truth), paper), (None, paper)):
                self.assertRight(grid, told, False)
        up, right = [(0, 0, 0), (0, 0, 1)], [(0, 0, 0), (0, 1, 0)]
        for ways in ([right, [[0, 0, 0], [0, 0, 1]]], [right, 5], [right, up, 5], [right, None], [5, right, up]):
            self.assertRight(SQUARES, (True, ways), False)

    def test_no_ways_show_what_is_not_so(self):
        for grid in APART:
            ways = [[(0, 0, 0), (p, 0, 0)] for p in range(1, grid[0])]
            self.assertRight(grid, (True, ways + [[(0, 0, 0), (0, 1, 0)], [(0, 0, 0), (0, 0, 1)]]), False)


class MarksRight(unittest.TestCase):
    def assertRight(self, grid, paper, truth):
        with self.subTest(grid=grid, paper=paper):
            self.assertIs(hanging_right(grid, (False, paper)), truth)

    def test_other_right_marks(self):
        for grid in APART:
            m, x, y, marks = hanging_of(grid)[1]
            for by in (-2 * m, m, 10 ** 59 * m):
                self.assertRight(grid, (m, x + by, y - by, marks), True)
                self.assertRight(grid, (m, x, y, (marks[0] + by,) + marks[1:]), True)
            for by in (-7, 1, 10 ** 59):
                self.assertRight(grid, (m, x, y, tuple(mark + by for mark in marks)), True)
            self.assertRight(grid, (m, -x, -y, tuple(-mark for mark in marks)), True)
            self.assertRight(grid, (3 * m, 3 * x, -3 * -y, tuple(3 * mark for mark in marks)), True)

    def test_right_marks_by_hand(self):
        self.assertRight(BARE, (2, 0, 1, (5,)), True)
        self.assertRight(BARE_FOUR, (7, 0, 0, (3, 3, 3, 4)), True)
        self.assertRight(LINES, (5, -2, 10, (0,)), True)
        self.assertRight(CHECKERS, (2, 1, 1, (0,)), True)
        self.assertRight(LONE_PLACE, (9, 0, 0, (-4, 4)), True)
        self.assertRight(TWO_LAYERS, (2, 0, 0, (1, 0)), True)
        self.assertRight(EVEN_ROUNDS, (2, 1, 0, (0, 1)), True)
        self.assertRight(THIRDS, (3, 1, 0, (0, 2, 1)), True)
        self.assertRight(EVEN_SUMS, (2, 1, -1, (0, 1)), True)

    def test_other_forms_are_not_let_by(self):
        for paper in (
            [2, 0, 1, (0,)], (2, 0, 1, [0]), (2, 0, 1), (2, 0, 1, (0,), 0), (2, 0, 1, 0), (2, 0, 1, (False,)),
            (2, 0, True, (0,)), (2, True, 0, (0,)), (True, 0, 1, (0,)), (2, 0, 1, ((0,),)),
        ):
            self.assertRight(BARE, paper, False)

    def test_m_below_two(self):
        for grid in APART:
            m, x, y, marks = hanging_of(grid)[1]
            for low in (1, 0, -1, -m, -10 ** 60):
                self.assertRight(grid, (low, x, y, marks), False)

    def test_marks_too_many_or_too_few(self):
        for grid in APART:
            m, x, y, marks = hanging_of(grid)[1]
            self.assertRight(grid, (m, x, y, marks + (0,)), False)
            self.assertRight(grid, (m, x, y, marks + marks), False)
            self.assertRight(grid, (m, x, y, marks[:-1]), False)
            self.assertRight(grid, (m, x, y, ()), False)

    def test_neighbours_with_other_rests(self):
        self.assertRight(LINES, (2, 1, 1, (0,)), False)
        self.assertRight(LINES, (2, 0, 1, (0,)), False)
        self.assertRight(CHECKERS, (3, 1, 1, (0,)), False)
        self.assertRight(CHECKERS, (2, 1, 0, (0,)), False)
        self.assertRight(CHECKERS, (2, 0, 1, (0,)), False)
        self.assertRight(EVEN_ROUNDS, (2, 1, 0, (0, 0)), False)
        self.assertRight(THIRDS, (3, 1, 0, (0, 1, 2)), False)
        self.assertRight(THIRDS, (3, 1, 0, (0, 2, 2)), False)

    def test_all_places_with_the_same_rest(self):
        for grid in APART + TOGETHER:
            for m in (2, 3, 10 ** 30):
                self.assertRight(grid, (m, 0, 0, (0,) * grid[0]), False)
                self.assertRight(grid, (m, m, -m, (5 - m,) + (5,) * (grid[0] - 1)), False)

    def test_no_marks_show_what_is_not_so(self):
        for grid in TOGETHER:
            for m in (2, 3, 4):
                for x in range(m):
                    for y in range(m):
                        for marks in ((0,) * grid[0], tuple(range(grid[0])), (1,) + (0,) * (grid[0] - 1)):
                            self.assertRight(grid, (m, x, y, marks), False)

    def test_every_change_by_the_words(self):
        for grid in APART + SOME[:60]:
            truth, paper = hanging_of(grid)
            if truth:
                continue
            m, x, y, marks = paper
            for by in (-2, -1, 1, 2):
                changed = [(m + by, x, y, marks), (m, x + by, y, marks), (m, x, y + by, marks)]
                for p in range(grid[0]):
                    changed.append((m, x, y, marks[:p] + (marks[p] + by,) + marks[p + 1:]))
                for other in changed:
                    self.assertRight(grid, other, marks_show(grid, other))


if __name__ == "__main__":
    unittest.main()
