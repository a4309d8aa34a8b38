"""Points 30 and 31: the desk, its deeds, its questions and its refusals."""

import random
import unittest

from farshells.desk import Desk
from farshells.errors import NoBack, NoGrid, NoLine, NoText, NotTogether, TooFar, TooMany
from farshells.growth import growth_of
from farshells.hanging import hanging_of
from farshells.held import start_groups
from farshells.looking import look_from
from farshells.rows import row_of
from farshells.shape import shape_of
from farshells.terms import all_within, shell_far
from farshells.texts import grid_text, place_text, read_grid
from samples import (
    APART, CROOKED, HONEYCOMB, KAGOME, KINGS, LINES, OCTAGONS, SQUARES, TOGETHER, TRIANGLES, all_ties, some_grids,
)
from test_cones import HANGERS
from test_finding import BRICKS, BY_MOST, MANY_RAYS, NO_MOST, found

SIXTY = 10 ** 60
FULL = (2, tuple(all_ties(2)[:16]))
FIRST = (1, ())
QUESTIONS = ("show", "hangs", "far 0 0:0,1", "shell 0 3", "within 0 3", "row 0", "growth", "groups", "corners")
SOME = tuple(some_grids(30, seed=30))
# Rows that are none, whatever the grid.
NO_ROWS = (
    "", " ", "  ", "\n", "\t", "shows", "sho", "Show", "SHOW", " show", "show ", "show  ", "show\n", "\nshow",
    "show show", "show 0", "hangs 0", "hangs ", "hang", "Hangs", "back ", " back", "back 1", "back back",
    "Back", "growth 0", "growth ", "Growth", "groups 0", "groups ", "group", "corners 0", "corners ", "corner",
    "grid", " grid 1", "Grid 1", "grid\t1", "grid\n1", "GRID 1", "tie", "tie ", "tie 0", "tie 0 0", "tie 0 0 1",
    "tie 0 0 1 0 0", "tie 0 0 1 0 ", "tie  0 0 1 0", "tie 0 0  1 0", " tie 0 0 1 0", "Tie 0 0 1 0",
    "tie 0 0 1  0", "tie 0,0,1,0", "tie 0-0:1,0", "tie 0 0 2 0", "tie 0 0 0 2", "tie 0 0 -2 0", "tie 0 0 0 -2",
    "tie 4 0 1 0", "tie 0 4 1 0", "tie -1 0 1 0", "tie 0 -1 1 0", "tie a 0 1 0", "tie 0 b 1 0", "tie 0 0 x 0",
    "tie 0 0 1 y", "tie 00 0 1 0", "tie 0 00 1 0", "tie 0 0 01 0", "tie 0 0 1 -0", "tie 0 0 +1 0",
    "tie 0 0 1 00", "tie 0 0 1. 0", "tie 0 0 1 0\n", "tie 0 0 \u0661 0", "tie 0 0 -01 0", "tie 0 0 --1 0",
    "cut", "cut ", "cut 0 0 1", "cut 0 0 1 0 0", "cut 0 0 2 0", "cut 0 0 0 -2", "cut 4 0 1 0", "cut 0 4 1 0",
    "cut 0 -1 1 0", "cut 0 0 1 -0", "cut 0 0 +1 0", "Cut 0 0 1 0", "far", "far ", "far 0", "far 0:0,0",
    "far 0:0,0 0", "far 4 0:0,0", "far -1 0:0,0", "far 00 0:0,0", "far -0 0:0,0", "far +0 0:0,0",
    "far  0 0:0,0", "far 0  0:0,0", "far 0 0:0,0 ", "far 0 0:0,0 0:0,0", "far 0 0:0, 0", "far x 0:0,0",
    "Far 0 0:0,0", " far 0 0:0,0", "shell", "shell 0", "shell 0 ", "shell 0 1 1", "shell 0 1 ", "shell 0  1",
    "shell 4 1", "shell -1 1", "shell 00 1", "shell 0 01", "shell 0 -1", "shell 0 -0", "shell 0 +1",
    "shell 0 1.0", "shell 0 1_0", "shell 0 x", "shell 0 \u00b2", f"shell 0 {SIXTY + 1}", f"shell 0 {10 ** 61}",
    f"shell 0 -{SIXTY}", "shell 0 " + "1" * 5000, "shell 0 0" + "1" * 5, "Shell 0 1", "shells 0 1", "within",
    "within 0", "within 0 ", "within 0 1 1", "within 4 1", "within 0 -1", "within 0 01",
    f"within 0 {SIXTY + 1}", "within 0 " + "9" * 61, "Within 0 1", "row", "row ", "row 4", "row -1", "row 00",
    "row 0 0", "row 0 ", "row  0", "row x", "Row 0", "rows 0", "row 0\n", "ok", "yes", "0", "1", "1 0-0:0,1",
    "help", "quit", "back\x00", "\u00e9", "show\u00a0",
)


def said(desk, row):
    """What the desk answers, or the kind of its refusal."""
    try:
        return desk.say(row)
    except (NoLine, NoBack, NoText, NoGrid, NotTogether, TooFar, TooMany) as refusal:
        return type(refusal)


def desk_of(grid):
    """A desk that keeps the grid, with one deed to take back."""
    desk = Desk()
    desk.say("grid " + grid_text(grid))
    return desk


def turned(tie):
    a, b, x, y = tie
    return b, a, -x, -y


def row_with(word, tie):
    return " ".join([word] + [str(number) for number in tie])


class Model:
    """What the desk keeps, by the words of point 30: a set of ties, and all that was there ahead."""

    def __init__(self):
        self.kept = (1, frozenset())
        self.deeds = []

    def show(self):
        return grid_text((self.kept[0], tuple(sorted(self.kept[1]))))

    def do(self, kept):
        self.deeds.append(self.kept)
        self.kept = kept
        return "ok"

    def tie(self, word, tie):
        """The answer to `tie` or `cut`, of places and steps that there may be."""
        known = set(all_ties(self.kept[0]))
        told = tie if tie in known else turned(tie)
        places, ties = self.kept
        if told not in known or (told in ties) != (word == "cut") or (word == "tie" and len(ties) == 16):
            return NoGrid
        return self.do((places, ties ^ {told}))

    def back(self):
        if not self.deeds:
            return NoBack
        self.kept = self.deeds.pop()
        return "ok"


class Deeds(unittest.TestCase):
    def test_at_first(self):
        desk = Desk()
        self.assertEqual(desk.say("show"), "1")
        self.assertEqual(desk.say("hangs"), "no")
        self.assertEqual(desk.say("far 0 0:0,0"), "0")
        self.assertEqual(said(desk, "back"), NoBack)

    def test_grid(self):
        desk = Desk()
        for grid in TOGETHER + APART + SOME + (FULL,):
            self.assertEqual(desk.say("grid " + grid_text(grid)), "ok")
            self.assertEqual(desk.say("show"), grid_text(grid))

    def test_tie_and_cut_by_hand(self):
        desk = Desk()
        for row, shown in (
            ("tie 0 0 1 0", "1 0-0:1,0"), ("tie 0 0 0 -1", "1 0-0:0,1 0-0:1,0"), ("cut 0 0 -1 0", "1 0-0:0,1"),
            ("cut 0 0 0 1", "1"), ("grid 3 0-1:0,0", "3 0-1:0,0"), ("tie 2 0 1 -1", "3 0-1:0,0 0-2:-1,1"),
            ("tie 1 2 0 0", "3 0-1:0,0 0-2:-1,1 1-2:0,0"), ("cut 1 0 0 0", "3 0-2:-1,1 1-2:0,0"),
            ("cut 0 2 -1 1", "3 1-2:0,0"), ("cut 2 1 0 0", "3"),
        ):
            self.assertEqual(desk.say(row), "ok")
            self.assertEqual(desk.say("show"), shown)

    def test_from_either_end(self):
        for places in (1, 2, 4):
            for tie in all_ties(places):
                for one in (tie, turned(tie)):
                    for other in (tie, turned(tie)):
                        desk = desk_of((places, ()))
                        self.assertEqual(desk.say(row_with("tie", one)), "ok")
                        self.assertEqual(desk.say("show"), grid_text((places, (tie,))))
                        self.assertEqual(said(desk, row_with("tie", other)), NoGrid)
                        self.assertEqual(desk.say(row_with("cut", other)), "ok")
                        self.assertEqual(desk.say("show"), str(places))
                        self.assertEqual(said(desk, row_with("cut", one)), NoGrid)

    def test_back(self):
        desk = Desk()
        texts = []
        for row in (
            "tie 0 0 1 0", "grid 2 0-1:0,0", "tie 1 0 1 1", "cut 0 1 0 0", "grid 2 0-1:-1,-1", "grid 2 0-1:-1,-1",
            "grid 4", "tie 3 3 0 1",
        ):
            texts.append(desk.say("show"))
            self.assertEqual(desk.say(row), "ok")
            # Neither questions nor what is refused is a deed.
            for other in QUESTIONS + ("grid x", "tie 0 0 0 0", "cut 0 0 0 0", "nothing"):
                said(desk, other)
        for text in texts[::-1]:
            self.assertEqual(desk.say("back"), "ok")
            self.assertEqual(desk.say("show"), text)
            said(desk, "cut 0 0 0 0")
        self.assertEqual(said(desk, "back"), NoBack)
        self.assertEqual(desk.say("show"), "1")

    def test_back_after_each_deed(self):
        for row in ("grid 1", "grid 1 0-0:0,1 0-0:1,0", "grid 3 0-1:0,0", "tie 0 0 1 1", "cut 0 0 0 1"):
            desk = desk_of(LINES)
            self.assertEqual(desk.say(row), "ok")
            self.assertEqual(desk.say("back"), "ok")
            self.assertEqual(desk.say("show"), grid_text(LINES))
            self.assertEqual(desk.say("back"), "ok")
            self.assertEqual(desk.say("show"), "1")
            self.assertEqual(said(desk, "back"), NoBack)

    def test_a_back_is_no_deed(self):
        desk = desk_of(SQUARES)
        desk.say("back")
        # It is not done again, but nothing is left.
        self.assertEqual(said(desk, "back"), NoBack)
        desk.say("tie 0 0 1 1")
        desk.say("tie 0 0 0 1")
        desk.say("back")
        desk.say("tie 0 0 1 0")
        self.assertEqual(desk.say("show"), "1 0-0:1,0 0-0:1,1")
        desk.say("back")
        self.assertEqual(desk.say("show"), "1 0-0:1,1")
        desk.say("back")
        self.assertEqual(desk.say("show"), "1")
        self.assertEqual(said(desk, "back"), NoBack)

    def test_400_deeds(self):
        desk = Desk()
        for at in range(200):
            self.assertEqual(desk.say("tie 0 0 1 0"), "ok")
            self.assertEqual(desk.say("cut 0 0 1 0"), "ok")
        for at in range(400):
            self.assertEqual(desk.say("back"), "ok")
            self.assertEqual(desk.say("show"), "1 0-0:1,0" if at % 2 == 0 else "1")
        self.assertEqual(said(desk, "back"), NoBack)

    def test_drawn_rows(self):
        for seed in range(30):
            chance = random.Random(seed)
            desk, model = Desk(), Model()
            for _ in range(200):
                deed = chance.choice(("tie", "tie", "tie", "tie", "cut", "back", "grid", "bad"))
                if deed in ("tie", "cut"):
                    places = model.kept[0]
                    tie = tuple(chance.choice(range(places)) for _ in "ab") + tuple(chance.randint(-1, 1) for _ in "xy")
                    told = said(desk, row_with(deed, tie)), model.tie(deed, tie)
                elif deed == "grid" and chance.random() < 0.2:
                    grid = chance.choice(TOGETHER + APART + (FULL,))
                    told = said(desk, "grid " + grid_text(grid)), model.do((grid[0], frozenset(grid[1])))
                elif deed == "bad":
                    told = said(desk, chance.choice(NO_ROWS)), NoLine
                elif deed == "back" and chance.random() < 0.6:
                    told = said(desk, "back"), model.back()
                else:
                    continue
                self.assertEqual(told[0], told[1])
                self.assertEqual(desk.say("show"), model.show())

    def test_side_by_side(self):
        one, other = Desk(), Desk()
        one.say("tie 0 0 1 0")
        self.assertEqual((one.say("show"), other.say("show")), ("1 0-0:1,0", "1"))
        self.assertEqual(said(other, "back"), NoBack)
        other.say("grid 2")
        one.say("back")
        self.assertEqual((one.say("show"), other.say("show")), ("1", "2"))
        self.assertEqual(Desk().say("show"), "1")


class Questions(unittest.TestCase):
    def test_by_hand(self):
        for grid, row, answer in (
            (SQUARES, "show", "1 0-0:0,1 0-0:1,0"), (SQUARES, "hangs", "yes"), (LINES, "hangs", "no"),
            (SQUARES, "far 0 0:-3,4", "7"), (SQUARES, "far 0 0:12,0", "12"), (LINES, "far 0 0:0,-12", "12"),
            (HONEYCOMB, "far 1 0:0,0", "1"), (HONEYCOMB, "far 1 1:0,0", "0"), (SQUARES, "shell 0 0", "1"),
            (SQUARES, "shell 0 5", "20"), (SQUARES, f"shell 0 {SIXTY}", str(4 * SIXTY)), (SQUARES, "within 0 0", "1"),
            (SQUARES, "within 0 2", "13"), (SQUARES, f"within 0 {SIXTY}", str(2 * SIXTY * (SIXTY + 1) + 1)),
            (BRICKS, "shell 1 7", "21"), (SQUARES, "row 0", "1 2"), (BRICKS, "row 1", "2 3"), (KAGOME, "row 2", "2 4"),
            (OCTAGONS, "row 0", "12 13"), (SQUARES, "growth", "4/1"), (KAGOME, "growth", "9/2"),
            (OCTAGONS, "growth", "8/3"), (SQUARES, "groups", "0"), (OCTAGONS, "groups", "0+1+2+3"),
            (HANGERS, "groups", "0 1"), (SQUARES, "corners", "1,0/1 0,1/1 -1,0/1 0,-1/1"),
            (HONEYCOMB, "corners", "1,0/2 0,1/2 -1,1/2 -1,0/2 0,-1/2 1,-1/2"),
            ((3, ((0, 1, 0, 0), (1, 1, 0, 1), (1, 1, 1, 0), (1, 2, 0, 0))), "groups", "0+2 1"),
        ):
            with self.subTest(grid=grid, row=row):
                desk = desk_of(grid)
                self.assertEqual(desk.say(row), answer)
                self.assertIs(type(desk.say(row)), str)

    def test_hangs(self):
        for grid in TOGETHER + APART + SOME:
            self.assertEqual(desk_of(grid).say("hangs"), "yes" if hanging_of(grid)[0] else "no")

    def test_far(self):
        for grid in TOGETHER + APART:
            desk = desk_of(grid)
            for start in range(grid[0]):
                for place, number in look_from(grid, start, 12)[::9]:
                    self.assertEqual(desk.say(f"far {start} {place_text(place)}"), str(number))

    def test_by_the_papers(self):
        many = 0
        for grid in TOGETHER + SOME + tuple(grid for most, grid, start in BY_MOST):
            desk = desk_of(grid)
            for start in range(grid[0]):
                paper = found(grid, start) if hanging_of(grid)[0] else None
                if paper is None:
                    continue
                many += 1
                for n in (0, 1, 9, 10 ** 30, SIXTY):
                    self.assertEqual(desk.say(f"shell {start} {n}"), str(shell_far(grid, paper, n)))
                    self.assertEqual(desk.say(f"within {start} {n}"), str(all_within(grid, paper, n)))
                shells, rises = row_of(grid, paper)
                self.assertEqual(desk.say(f"row {start}"), f"{len(rises)} {len(shells)}")
                if start == 0:
                    top, bottom = growth_of(grid, paper)
                    self.assertEqual(desk.say("growth"), f"{top}/{bottom}")
        self.assertGreater(many, 30)

    def test_groups_and_corners(self):
        for grid in TOGETHER + SOME:
            if not hanging_of(grid)[0]:
                continue
            desk = desk_of(grid)
            corners = [f"{x},{y}/{length}" for x, y, length in shape_of(grid)[0]]
            self.assertEqual(desk.say("corners"), " ".join(corners))
            if all(found(grid, start) is not None for start in range(grid[0])):
                groups = ["+".join(map(str, group)) for group in start_groups(grid)]
                self.assertEqual(desk.say("groups"), " ".join(groups))

    def test_the_grid_as_it_is_now(self):
        desk = desk_of(SQUARES)
        for row, shell in (("tie 0 0 1 1", "18"), ("tie 0 0 1 -1", "24"), ("back", "18"), ("back", "12")):
            desk.say(row)
            self.assertEqual(desk.say("shell 0 3"), shell)

    def test_asked_again(self):
        for grid in (SQUARES, HONEYCOMB, KAGOME, HANGERS):
            desk = desk_of(grid)
            told = [desk.say(row) for row in QUESTIONS if row != "far 0 0:0,1"]
            self.assertEqual([desk.say(row) for row in QUESTIONS if row != "far 0 0:0,1"], told)
            self.assertEqual(desk.say("show"), grid_text(grid))


class Refusals(unittest.TestCase):
    def assertRefused(self, grid, row, kind):
        """The row is refused so, and the desk is as it was."""
        desk = desk_of(grid)
        with self.subTest(grid=grid, row=row):
            self.assertEqual(said(desk, row), kind)
            self.assertEqual(said(desk, row), kind)
            self.assertEqual(desk.say("show"), grid_text(grid))
            self.assertEqual(desk.say("back"), "ok")
            self.assertEqual(desk.say("show"), "1")
            self.assertEqual(said(desk, "back"), NoBack)

    def test_no_line(self):
        for row in NO_ROWS:
            for grid in (FIRST, SQUARES, KAGOME, OCTAGONS, FULL):
                self.assertRefused(grid, row, NoLine)

    def test_numbers_the_grid_has_not(self):
        for grid in (FIRST, SQUARES, HONEYCOMB, KAGOME):
            p = grid[0]
            for row in (
                f"tie {p} 0 1 0", f"tie 0 {p} 1 0", f"cut {p} 0 1 0", f"cut 0 {p} 1 0", f"far {p} 0:0,0",
                f"shell {p} 1", f"within {p} 1", f"row {p}",
            ):
                self.assertRefused(grid, row, NoLine)
                self.assertNotEqual(said(desk_of((p + 1, ())), row), NoLine)

    def test_no_back(self):
        desk = Desk()
        for _ in range(3):
            self.assertEqual(said(desk, "back"), NoBack)
            self.assertEqual(desk.say("show"), "1")

    def test_no_text(self):
        for text in (
            "", " ", "1 ", " 1", "0", "5", "01", "1  0-0:0,1", "1 0-0:1,0 0-0:0,1", "2 1-0:0,0", "1 0-0:0,0", "x",
        ):
            self.assertRefused(SQUARES, "grid " + text, NoText)
        for text in (
            "", "0", "0:0", "0:0,", "4:0,0", "1:0,0", "2:0,0", "-1:0,0", "0:+1,0", "0:-0,0", "0:01,0", "x", "\n",
        ):
            self.assertRefused(SQUARES, "far 0 " + text, NoText)
        for grid in (SQUARES, HONEYCOMB, KAGOME):
            self.assertRefused(grid, f"far 0 {grid[0]}:0,0", NoText)
            self.assertRefused(grid, "far 0 0:" + "1" * 31 + ",0", NoText)

    def test_no_grid(self):
        for tie in SQUARES[1]:
            self.assertRefused(SQUARES, row_with("tie", tie), NoGrid)
            self.assertRefused(SQUARES, row_with("tie", turned(tie)), NoGrid)
        for p in range(4):
            self.assertRefused(OCTAGONS, f"tie {p} {p} 0 0", NoGrid)
            self.assertRefused(OCTAGONS, f"cut {p} {p} 0 0", NoGrid)
        for tie in all_ties(2):
            if tie not in FULL[1]:
                self.assertRefused(FULL, row_with("tie", tie), NoGrid)
                self.assertRefused(FULL, row_with("tie", turned(tie)), NoGrid)
                self.assertRefused(FULL, row_with("cut", tie), NoGrid)
            else:
                self.assertRefused(FULL, row_with("tie", tie), NoGrid)
        self.assertRefused(SQUARES, "cut 0 0 1 1", NoGrid)
        self.assertRefused(SQUARES, "cut 0 0 -1 1", NoGrid)

    def test_the_sixteenth(self):
        desk = Desk()
        desk.say("grid 2")
        for tie in FULL[1]:
            self.assertEqual(desk.say(row_with("tie", tie)), "ok")
        self.assertEqual(desk.say("show"), grid_text(FULL))
        self.assertEqual(desk.say(row_with("cut", FULL[1][3])), "ok")
        self.assertEqual(desk.say(row_with("tie", turned(all_ties(2)[16]))), "ok")

    def test_too_far(self):
        for grid, row in (
            (SQUARES, "far 0 0:13,0"), (SQUARES, "far 0 0:-7,-6"), (LINES, "far 0 0:1,0"), (FIRST, "far 0 0:0,1"),
            (SQUARES, "far 0 0:" + "9" * 30 + ",-" + "9" * 30), (APART[1], "far 3 0:0,0"),
        ):
            self.assertRefused(grid, row, TooFar)

    def test_not_together(self):
        for grid in APART:
            for row in ("shell 0 1", "within 0 0", "row 0", "growth", "groups", "corners"):
                self.assertRefused(grid, row, NotTogether)

    def test_too_many(self):
        for grid in (CROOKED, MANY_RAYS):
            for row in ("shell 0 1", "within 3 0", "row 0", "growth", "groups"):
                self.assertRefused(grid, row, TooMany)
            self.assertIn("/", desk_of(grid).say("corners"))
        # Of one start there is none, so there are no groups; growth is by start 0.
        self.assertRefused(NO_MOST[0], "shell 0 1", TooMany)
        self.assertRefused(NO_MOST[0], "growth", TooMany)
        self.assertRefused(NO_MOST[1], "shell 1 1", TooMany)
        self.assertRefused(NO_MOST[0], "groups", TooMany)
        self.assertRefused(NO_MOST[1], "groups", TooMany)

    def test_which_goes_first(self):
        fresh = Desk()
        # No row, and no deed to take back.
        for row in ("back ", "back 1", " back", "back back"):
            self.assertEqual(said(fresh, row), NoLine)
        for grid, row, kind in (
            # No row, and a text that isn't so written, or a place the grid has not.
            (SQUARES, "far 1 x", NoLine), (SQUARES, "far x ", NoLine), (SQUARES, "far 01 4:0,0", NoLine),
            (SQUARES, "far 0 x y", NoLine), (SQUARES, "far 1 1:0,0", NoLine),
            # No row, and a tie that is there, ties a place to itself or is one too many, or isn't there.
            (SQUARES, "tie 0 0 1 0 0", NoLine), (SQUARES, "tie 00 0 1 0", NoLine), (SQUARES, "tie 1 1 0 0", NoLine),
            (FULL, "tie 1 1 2 0", NoLine), (SQUARES, "cut 0 1 1 1", NoLine), (SQUARES, "cut 0 0 -0 0", NoLine),
            # No row, and as the functions refuse.
            (SQUARES, "far 1 0:13,0", NoLine), (LINES, "shell 1 0", NoLine), (LINES, "shell 0 -1", NoLine),
            (LINES, f"within 0 {SIXTY + 1}", NoLine), (LINES, "row 1", NoLine), (LINES, "growth 0", NoLine),
            (CROOKED, "shell 4 1", NoLine), (CROOKED, "row 0 0", NoLine), (LINES, "groups ", NoLine),
            (LINES, "corners 1", NoLine),
            # A place that the grid has not, or that isn't so written, and too far.
            (SQUARES, "far 0 1:13,0", NoText), (LINES, "far 0 0:1,00", NoText), (FIRST, "far 0 2:5,5", NoText),
            # Not together, and more rests or a further reach than there may be.
            ((4, ((0, 1, -1, 0), (0, 1, 1, 0), (0, 2, -1, -1), (0, 2, -1, 1), (1, 2, 1, 0), (1, 2, 1, 1))),
             "shell 0 1", NotTogether),
            ((4, ((1, 2, 0, 1), (1, 3, -1, -1), (2, 3, 0, -1), (2, 3, 1, 0), (2, 3, 1, 1))), "row 0", NotTogether),
        ):
            self.assertRefused(grid, row, kind)

    def test_what_begins_with_grid_is_judged_as_a_text(self):
        for row in ("grid  1", "grid 1 ", "grid show", "grid grid 1", "grid 1\n", "grid 0 0 0 0"):
            self.assertRefused(SQUARES, row, NoText)

    def test_greatest_and_least_numbers(self):
        desk = desk_of(TRIANGLES)
        self.assertEqual(desk.say(f"shell 0 {SIXTY}"), str(6 * SIXTY))
        self.assertEqual(said(desk, f"shell 0 {SIXTY + 1}"), NoLine)
        self.assertEqual(desk.say("shell 0 0"), "1")
        self.assertEqual(said(desk, "shell 0 -1"), NoLine)
        self.assertEqual(desk_of(KINGS).say("within 0 1"), "9")

    def test_what_is_kept_can_be_read(self):
        for grid in SOME:
            self.assertEqual(read_grid(desk_of(grid).say("show")), grid)


if __name__ == "__main__":
    unittest.main()
