"""Points 1 to 4, over the whole program: its names, what is handed in and told, and that all answers agree."""

import copy
import importlib
import inspect
import unittest

from farshells.cones import cones_hold, cones_number
from farshells.desk import Desk
from farshells.errors import NoGrid, NotTogether, ShellError, TooMany
from farshells.finding import cones_of
from farshells.growth import growth_of, shape_area
from farshells.hanging import hanging_of, hanging_right
from farshells.heights import far_at_least, heights_hold
from farshells.held import held_right, rows_held, start_groups, starts_held
from farshells.looking import look_from, look_right, shells_near
from farshells.otherwise import doubled_grid, doubled_place, moved_grid, renamed_grid, sheared_grid
from farshells.ratios import ratio_times
from farshells.rays import rays_hold
from farshells.rows import row_of, row_shell
from farshells.shape import rays_of, shape_of, shape_right
from farshells.strips import ribbon_rule
from farshells.terms import all_within, shell_far
from farshells.texts import grid_text, read_grid, read_way, way_text
from farshells.ways import way_holds, way_to
from farshells.wrapped import round_about, wrapped_shells
from samples import APART, HONEYCOMB, KAGOME, LINES, OCTAGONS, SQUARES, TOGETHER, TRIANGLES, some_grids
from test_cones import HANGERS
from test_finding import WELL_KNOWN, found
from test_ribbons import LADDER
from test_terms import SIXTY

INTERFACE = {
    "ratios": {
        "is_whole": 1, "is_ratio": 1, "ratio_of": 2, "ratio_plus": 2, "ratio_times": 2, "ratio_over": 2, "is_less": 2,
        "whole_up": 1,
    },
    "grids": {"is_grid": 1, "made_grid": 2, "is_place": 2, "neighbours_of": 2},
    "hanging": {"hanging_of": 1, "hanging_right": 2},
    "looking": {"look_from": 3, "look_right": 4, "shells_near": 3},
    "ways": {"way_holds": 2, "way_to": 3},
    "ribbons": {"is_ribbon": 1, "rule_number": 3, "rule_holds": 3},
    "strips": {"ribbon_rule": 2, "ribbon_period": 2, "ribbon_shell": 3},
    "heights": {"heights_hold": 2, "height_of": 2, "far_at_least": 3},
    "rounds": {"rounds_of": 1},
    "shape": {"shape_of": 1, "shape_right": 2, "rays_of": 1},
    "rays": {"rays_hold": 1, "cone_rests": 2, "cone_place": 2, "reach_of": 1},
    "cones": {"cones_number": 3, "cones_hold": 3},
    "finding": {"cones_of": 2},
    "terms": {"paper_terms": 2, "shell_far": 3, "all_within": 3},
    "rows": {"row_period": 1, "row_of": 2, "row_shell": 2},
    "growth": {"growth_of": 2, "shape_area": 1},
    "held": {"rows_held": 2, "held_right": 3, "starts_held": 4, "start_groups": 1},
    "otherwise": {
        "renamed_grid": 2, "moved_grid": 4, "sheared_grid": 2, "doubled_grid": 2, "renamed_place": 2, "moved_place": 4,
        "sheared_place": 2, "doubled_place": 3,
    },
    "wrapped": {"wrapped_shells": 4, "round_about": 3},
    "texts": {"grid_text": 1, "place_text": 1, "way_text": 1, "read_grid": 1, "read_place": 1, "read_way": 1},
}

PAPER = cones_of(KAGOME, 1)
ROW = row_of(KAGOME, PAPER)
RULE = ribbon_rule(LADDER, 0)
HEIGHTS = shape_of(KAGOME)[2][0]
WAY = [(0, 0, 0), (1, 0, 0), (2, 0, 0)]

# Something to hand in to each function, lists where lists are told of.
ASKED = {
    "is_whole": (5,), "is_ratio": ((1, 2),), "ratio_of": (6, -4), "ratio_plus": ((1, 2), (1, 3)),
    "ratio_times": ((1, 2), (2, 3)), "ratio_over": ((1, 2), (2, 3)), "is_less": ((1, 2), (2, 3)), "whole_up": ((7, 2),),
    "is_grid": (KAGOME,), "made_grid": (2, [(1, 0, 1, 0), (0, 1, 0, 0), (0, 1, -1, 0)]),
    "is_place": (KAGOME, (2, -5, 7)), "neighbours_of": (KAGOME, (2, -5, 7)), "hanging_of": (KAGOME,),
    "hanging_right": (KAGOME, hanging_of(KAGOME)), "look_from": (KAGOME, 1, 3),
    "look_right": (KAGOME, 1, 3, look_from(KAGOME, 1, 3)), "shells_near": (KAGOME, 1, 5), "way_holds": (KAGOME, WAY),
    "way_to": (KAGOME, 1, (2, 2, -1)), "is_ribbon": (LADDER,), "rule_number": (LADDER, RULE, (1, -40)),
    "rule_holds": (LADDER, 0, RULE), "ribbon_rule": (LADDER, 1), "ribbon_period": (LADDER, RULE),
    "ribbon_shell": (LADDER, RULE, 9), "heights_hold": (KAGOME, HEIGHTS), "height_of": (HEIGHTS, (1, 2, 3)),
    "far_at_least": (HEIGHTS, (1, 2, 3), (0, -4, 5)), "rounds_of": (KAGOME,), "shape_of": (KAGOME,),
    "shape_right": (KAGOME, shape_of(KAGOME)), "rays_of": (KAGOME,), "rays_hold": (PAPER[1],),
    "cone_rests": (PAPER[1], 2), "cone_place": (PAPER[1], (-7, 3)), "reach_of": (PAPER[1],),
    "cones_number": (KAGOME, PAPER, (1, 9, -4)), "cones_hold": (KAGOME, 1, PAPER), "cones_of": (KAGOME, 1),
    "paper_terms": (KAGOME, PAPER), "shell_far": (KAGOME, PAPER, 31), "all_within": (KAGOME, PAPER, 31),
    "row_period": (PAPER,), "row_of": (KAGOME, PAPER), "row_shell": (ROW, 99), "growth_of": (KAGOME, PAPER),
    "shape_area": (shape_of(KAGOME)[0],), "rows_held": (ROW, ROW), "held_right": (ROW, ROW, rows_held(ROW, ROW)),
    "starts_held": (KAGOME, 1, OCTAGONS, 3), "start_groups": (HANGERS,), "renamed_grid": (KAGOME, [2, 0, 1]),
    "moved_grid": (HONEYCOMB, 1, 1, 0), "sheared_grid": (TRIANGLES, (0, -1, 1, 0)), "doubled_grid": (HONEYCOMB, 1),
    "renamed_place": ([2, 0, 1], (0, 4, 5)), "moved_place": (0, 1, -1, (0, 4, 5)),
    "sheared_place": ((2, 1, 1, 1), (0, 4, 5)), "doubled_place": (HONEYCOMB, 1, (0, 4, 5)),
    "wrapped_shells": (KAGOME, 1, 4, 3), "round_about": (KAGOME, 4, 3), "grid_text": (KAGOME,),
    "place_text": ((1, 2, -3),), "way_text": (WAY,), "read_grid": ("1 0-0:0,1",), "read_place": ("1:2,-3",),
    "read_way": ("1:2,-3>0:0,0",),
}

DRAWN = tuple(grid for grid in some_grids(40, seed=31) if hanging_of(grid)[0])
GRIDS = WELL_KNOWN + (HANGERS,) + DRAWN


def functions():
    for name, names in INTERFACE.items():
        module = importlib.import_module("farshells." + name)
        for function in names:
            yield function, getattr(module, function), names[function]


def lists_in(thing):
    """All lists in a thing, wherever they stand."""
    if isinstance(thing, (list, tuple)):
        found_lists = [thing] if isinstance(thing, list) else []
        return found_lists + [one for part in thing for one in lists_in(part)]
    return []


def as_tuples(thing):
    """The thing with a tuple in place of each list."""
    if isinstance(thing, (list, tuple)):
        return tuple(as_tuples(part) for part in thing)
    return thing


def told_or_none(tell, *asked):
    try:
        return tell(*asked)
    except ShellError:
        return None


class Names(unittest.TestCase):
    def test_all_are_there(self):
        for name, function, many in functions():
            with self.subTest(name):
                kinds = [one.kind for one in inspect.signature(function).parameters.values()]
                self.assertEqual(kinds, [inspect.Parameter.POSITIONAL_OR_KEYWORD] * many)
        self.assertEqual(sorted(ASKED), sorted(name for name, function, many in functions()))
        self.assertIn("say", vars(Desk))
        self.assertEqual(len(inspect.signature(Desk).parameters), 0)


class HandedIn(unittest.TestCase):
    def test_it_stays_and_what_is_told_is_the_askers_own(self):
        for name, function, many in functions():
            with self.subTest(name):
                asked = copy.deepcopy(ASKED[name])
                self.assertEqual(len(asked), many)
                told = function(*asked)
                kept = copy.deepcopy(told)
                self.assertEqual(repr(asked), repr(ASKED[name]))
                lists = lists_in(told)
                self.assertEqual(len({id(one) for one in lists}), len(lists))
                self.assertEqual({id(one) for one in lists} & {id(one) for one in lists_in(asked)}, set())
                # What was told is changed, and so is what was handed in; told anew it is as it was.
                for one in lists + lists_in(asked):
                    one.clear()
                again = function(*ASKED[name])
                self.assertEqual(repr(again), repr(kept))
                self.assertIs(type(again), type(kept))

    def test_a_tuple_where_a_list_is_told_of(self):
        for name, function, many in functions():
            if lists_in(ASKED[name]):
                with self.subTest(name):
                    self.assertEqual(function(*as_tuples(ASKED[name])), function(*ASKED[name]))

    def test_what_is_told_is_whole(self):
        """No number with a point, and no truth but alone or as the first of a pair."""
        def whole(thing):
            if isinstance(thing, (list, tuple)):
                return all(whole(part) for part in thing)
            return type(thing) in (int, str)

        for name, function, many in functions():
            told = function(*ASKED[name])
            if name == "hanging_of":
                self.assertIs(told[0], True)
                told = told[1]
            self.assertTrue(told is True or whole(told), name)

    def test_judges_let_by_what_is_told(self):
        for grid in GRIDS + APART:
            self.assertIs(hanging_right(grid, hanging_of(grid)), True)
            self.assertIs(look_right(grid, 0, 4, look_from(grid, 0, 4)), True)
        for grid in GRIDS:
            self.assertIs(shape_right(grid, shape_of(grid)), True)
            self.assertIs(way_holds(grid, round_about(grid, 3, 3)[1]), True)
            paper = found(grid, 0)
            if paper is not None:
                self.assertIs(rays_hold(paper[1]), True)
                self.assertIs(cones_hold(grid, 0, paper), True)
                row = row_of(grid, paper)
                self.assertIs(held_right(row, ROW, rows_held(row, ROW)), True)


class Agreeing(unittest.TestCase):
    def papers(self):
        for grid in GRIDS:
            for start in range(grid[0]):
                if found(grid, start) is not None:
                    yield grid, start, found(grid, start)

    def test_shells_however_they_are_told(self):
        many = 0
        for grid, start, paper in self.papers():
            many += 1
            near = shells_near(grid, start, 9)
            row = row_of(grid, paper)
            # No place in nine ties is further than nine cells.
            cells = [(x, y) for x in range(-9, 10) for y in range(-9, 10)]
            numbers = [cones_number(grid, paper, (p, x, y)) for p in range(grid[0]) for x, y in cells]
            with self.subTest(grid=grid, start=start):
                self.assertEqual([shell_far(grid, paper, n) for n in range(10)], near)
                self.assertEqual([row_shell(row, n) for n in range(10)], near)
                self.assertEqual([numbers.count(n) for n in range(10)], near)
                within = [sum(near[:n + 1]) for n in range(10)]
                self.assertEqual([all_within(grid, paper, n) for n in range(10)], within)
                for n in (10 ** 12 + 5, SIXTY - 1, SIXTY):
                    self.assertEqual(row_shell(row, n), shell_far(grid, paper, n))
                    self.assertEqual(
                        all_within(grid, paper, n) - all_within(grid, paper, n - 1), row_shell(row, n)
                    )
        self.assertGreater(many, 40)

    def test_wrapped_shells_too(self):
        for grid, start, paper in self.papers():
            ties, way = round_about(grid, 9, 8)
            told = wrapped_shells(grid, start, 9, 8)
            for n in range((ties + 1) // 2):
                self.assertEqual(told[n], shell_far(grid, paper, n))

    def test_growth_as_the_shape_tells(self):
        for grid, start, paper in self.papers():
            area = shape_area(shape_of(grid)[0])
            self.assertEqual(growth_of(grid, paper), ratio_times((2 * grid[0], 1), area))

    def test_near_places_by_ways_heights_and_papers(self):
        for grid, start, paper in self.papers():
            sides = shape_of(grid)[2]
            for place, number in look_from(grid, start, 6)[::5]:
                self.assertEqual(cones_number(grid, paper, place), number)
                way = way_to(grid, start, place)
                self.assertEqual((len(way) - 1, way[0], way[-1]), (number, (start, 0, 0), place))
                self.assertIs(way_holds(grid, way), True)
                self.assertLessEqual(max(far_at_least(heights, way[0], place) for heights in sides), number)

    def test_far_places_by_rounds_heights_and_papers(self):
        for grid in GRIDS:
            corners, ways, sides = shape_of(grid)
            for (x, y, length), way, heights in zip(corners, ways, sides):
                start = way[0][0]
                paper = found(grid, start)
                self.assertIs(heights_hold(grid, heights), True)
                for times in (1, 2, 7, 10 ** 28):
                    place = (start, times * x, times * y)
                    # So often round is a way with so many ties, and by the heights there is none with fewer.
                    self.assertEqual(far_at_least(heights, (start, 0, 0), place), times * length)
                    if paper is not None:
                        self.assertEqual(cones_number(grid, paper, place), times * length)

    def test_far_places_are_no_nearer_than_heights_tell(self):
        cells = [(10 ** 25, 0), (10 ** 25, 3 * 10 ** 24 + 1), (-7 * 10 ** 20, 10 ** 21), (5, -10 ** 29), (-999, -999)]
        for grid, start, paper in self.papers():
            sides = shape_of(grid)[2]
            for x, y in cells:
                for p in range(grid[0]):
                    told = cones_number(grid, paper, (p, x, y))
                    least = max(far_at_least(heights, (start, 0, 0), (p, x, y)) for heights in sides)
                    self.assertLessEqual(least, told)
                    # The shape tells it from both sides: it is off by no more than some ties, however far.
                    self.assertLess(told - least, 60)

    def test_the_desk_tells_the_same(self):
        for grid in WELL_KNOWN:
            desk = Desk()
            desk.say("grid " + grid_text(grid))
            for start in range(grid[0]):
                paper = found(grid, start)
                self.assertEqual(desk.say(f"shell {start} {SIXTY}"), str(shell_far(grid, paper, SIXTY)))

    def test_texts_of_what_is_told(self):
        for grid in GRIDS:
            self.assertEqual(read_grid(grid_text(grid)), grid)
            for way in hanging_of(grid)[1] + shape_of(grid)[1]:
                self.assertEqual(read_way(way_text(way)), way)


class Otherwise(unittest.TestCase):
    def others(self, grid):
        """(other, starts) of the grid told otherwise, starts being what its starts become."""
        places = list(range(grid[0]))
        order = places[1:] + places[:1]
        told = [(told_or_none(renamed_grid, grid, order), order)]
        told += [(told_or_none(moved_grid, grid, 0, x, y), places) for x, y in ((1, 0), (0, -1), (-1, 1))]
        told += [
            (told_or_none(sheared_grid, grid, shear), places)
            for shear in ((0, 1, 1, 0), (-1, 0, 0, 1), (1, 1, 0, 1), (1, 0, -1, 1), (0, -1, 1, 0))
        ]
        told += [
            (told_or_none(doubled_grid, grid, way), [doubled_place(grid, way, (p, 0, 0))[0] for p in places])
            for way in (0, 1)
        ]
        return [one for one in told if one[0] is not None]

    def test_the_same_rows_growth_and_groups(self):
        many = 0
        for grid in WELL_KNOWN + (HANGERS,) + DRAWN[:10]:
            for other, starts in self.others(grid):
                if any(found(one, start) is None for one in (grid, other) for start in range(one[0])):
                    continue
                many += 1
                groups, told = start_groups(grid), start_groups(other)
                with self.subTest(grid=grid, other=other):
                    for p in range(grid[0]):
                        rows = row_of(grid, found(grid, p)), row_of(other, found(other, starts[p]))
                        self.assertEqual(rows_held(*rows)[0], "alike")
                        for q in range(grid[0]):
                            self.assertEqual(
                                any(p in group and q in group for group in groups),
                                any(starts[p] in group and starts[q] in group for group in told),
                            )
                    self.assertEqual(growth_of(grid, found(grid, 0)), growth_of(other, found(other, 0)))
        self.assertGreater(many, 60)

    def test_it_hangs_together_as_it_did(self):
        for grid in GRIDS + APART:
            for other, starts in self.others(grid):
                self.assertIs(hanging_of(other)[0], hanging_of(grid)[0])

    def test_the_area_stays_where_the_cells_do(self):
        for grid in GRIDS:
            area = shape_area(shape_of(grid)[0])
            for other, starts in self.others(grid):
                self.assertEqual(
                    ratio_times((other[0], 1), shape_area(shape_of(other)[0])), ratio_times((grid[0], 1), area)
                )


class Refused(unittest.TestCase):
    def test_all_refusals_are_errors_of_the_program(self):
        for tell, asked, kind in (
            (shape_of, (LINES,), NotTogether), (rays_of, (LINES,), NotTogether), (cones_of, (LINES, 0), NotTogether),
            (starts_held, (SQUARES, 0, LINES, 0), NotTogether), (start_groups, (LINES,), NotTogether),
            (round_about, (LINES, 2, 2), NotTogether), (doubled_grid, (KAGOME, 0), NoGrid),
            (sheared_grid, (KAGOME, (2, 1, 1, 1)), NoGrid), (cones_of, (TOGETHER[-1], 0), TooMany),
        ):
            self.assertRaises(kind, tell, *asked)
            self.assertTrue(issubclass(kind, ShellError))
            self.assertEqual(kind.__bases__, (ShellError,))


if __name__ == "__main__":
    unittest.main()
