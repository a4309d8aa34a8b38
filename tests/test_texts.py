"""Point 29: grids, places and ways written as texts, and read."""

import re
import unittest

from farshells.errors import NoText
from farshells.texts import grid_text, place_text, read_grid, read_place, read_way, way_text
from samples import APART, BARE, HONEYCOMB, SQUARES, TOGETHER, all_ties, anything, some_grids, texts_of

THIRTY = 10 ** 30 - 1
NUMBER = "(0|-?[1-9][0-9]{0,29})"
TIE = re.compile(f"{NUMBER}-{NUMBER}:{NUMBER},{NUMBER}")
PLACE = re.compile(f"{NUMBER}:{NUMBER},{NUMBER}")
GRIDS = TOGETHER + APART + tuple(some_grids(60, seed=29)) + tuple(
    (places, tuple(all_ties(places)[:many])) for places in (2, 3, 4) for many in range(17)
)
# Figures, blanks and signs that look like these but are others.
STRANGE = (
    "\u0663", "\u00b2", "\uff11", "\u0967", "\u2212", "\u00a0", "\u2009", "\u2460", "\t", "\n", "\r", "\x0b", "\x00",
)


def grid_by_words(text):
    """The grid that is so written, None where there is none."""
    words = text.split(" ")
    ties = [TIE.fullmatch(word) for word in words[1:]]
    if words[0] not in ("1", "2", "3", "4") or None in ties:
        return None
    told = [tuple(map(int, tie.groups())) for tie in ties]
    known = all_ties(int(words[0]))
    if len(told) > 16 or told != sorted(set(told)) or any(tie not in known for tie in told):
        return None
    return int(words[0]), tuple(told)


def place_by_words(text):
    found = PLACE.fullmatch(text)
    place = tuple(map(int, found.groups())) if found else (4,)
    return place if 0 <= place[0] <= 3 else None


def way_by_words(text):
    places = [place_by_words(word) for word in text.split(">")]
    return None if None in places or len(places) > 400 else places


def changed(text):
    """The text with one sign out, twice, another one, or one more, at each place."""
    for at in range(len(text) + 1):
        yield text[:at] + text[at + 1:]
        yield text[:at] + text[at:at + 1] + text[at:]
        for sign in " 0123459-:,>+._x" + "\n" + STRANGE[0]:
            yield text[:at] + sign + text[at:]
            yield text[:at] + sign + text[at + 1:]


class Texts(unittest.TestCase):
    def assertRead(self, read, by_words, text):
        told = by_words(text)
        if told is None:
            self.assertRaises(NoText, read, text)
        else:
            self.assertEqual(read(text), told)
            self.assertEqual(repr(read(text)), repr(told))

    def test_grids_by_hand(self):
        for grid, text in (
            (BARE, "1"), ((4, ()), "4"), (SQUARES, "1 0-0:0,1 0-0:1,0"), (HONEYCOMB, "2 0-1:-1,0 0-1:0,-1 0-1:0,0"),
            ((3, ((0, 2, -1, -1), (1, 1, 1, -1))), "3 0-2:-1,-1 1-1:1,-1"),
        ):
            self.assertEqual(grid_text(grid), text)
            self.assertEqual(read_grid(text), grid)

    def test_grids_written_and_read(self):
        for grid in GRIDS:
            text = grid_text(grid)
            self.assertEqual(grid_by_words(text), grid)
            self.assertEqual(repr(read_grid(text)), repr(grid))
        self.assertEqual({len(grid[1]) for grid in GRIDS}, set(range(17)))

    def test_grids_a_little_changed(self):
        many = 0
        for grid in (BARE, SQUARES, HONEYCOMB, (3, ((0, 2, -1, -1), (1, 1, 1, -1)))):
            for text in changed(grid_text(grid)):
                many += grid_by_words(text) is not None
                self.assertRead(read_grid, grid_by_words, text)
        self.assertGreater(many, 50)

    def test_no_grids(self):
        for text in (
            "", " ", "0", "5", "-1", "01", "+1", "1 ", " 1", "1  0-0:0,1", "1 0-0:0,1 ", "1 0-0:0,1  0-0:1,0",
            "1 0-0:1,0 0-0:0,1", "1 0-0:0,1 0-0:0,1", "1 0-0:0,-1", "2 1-0:0,0", "2 1-0:1,0", "1 0-0:0,0", "1 0-0:-0,1",
            "1 0-0:0,+1", "1 0-0:0,01", "1 00-0:0,1", "1 0-0:0,2", "1 0-1:0,0", "2 0-2:0,0", "1 0-0:0;1", "1 0-0:0,1,",
            "1 0:0-0,1", "1 0-0 0,1", "1 0-0:0 ,1", "1,0-0:0,1", "1\n", "1\t0-0:0,1", "10", "1 0--1:0,0", "1 -0-0:0,1",
            "2 0-1:0,0,0", "2 0-1-1:0,0", "2 0-1::0,0", "1_0", "0x1", "1.0", "one", "1 tie", "9" * 31, "1" * 5000,
            "1 0-0:0," + "1" * 5000, "2 0-1:-1,0 0-1:-1,0", "(1, ())",
        ):
            with self.subTest(text):
                self.assertIsNone(grid_by_words(text))
                self.assertRaises(NoText, read_grid, text)

    def test_a_seventeenth_tie(self):
        for places in (3, 4):
            ties = all_ties(places)[:17]
            text = grid_text((places, tuple(ties)))
            self.assertRaises(NoText, read_grid, text)
            self.assertEqual(read_grid(text.rpartition(" ")[0]), (places, tuple(ties[:16])))

    def test_places_by_hand(self):
        for place, text in (
            ((0, 0, 0), "0:0,0"), ((3, -1, 2), "3:-1,2"), ((1, THIRTY, -THIRTY), "1:" + "9" * 30 + ",-" + "9" * 30),
            ((2, 10 ** 29, -10 ** 29), "2:1" + "0" * 29 + ",-1" + "0" * 29),
        ):
            self.assertEqual(place_text(place), text)
            self.assertEqual(read_place(text), place)
            self.assertEqual(read_way(text), [place])
            self.assertIs(type(read_place(text)), tuple)

    def test_places_written_and_read(self):
        numbers = (0, 1, -1, 9, 10, -10, 101, -12345, 10 ** 29, -10 ** 29, THIRTY, -THIRTY)
        for p in range(4):
            for x in numbers:
                for y in numbers:
                    self.assertEqual(read_place(place_text((p, x, y))), (p, x, y))

    def test_places_a_little_changed(self):
        for text in ("0:0,0", "3:-10,2", "1:" + "9" * 30 + ",-" + "1" * 30):
            for other in changed(text):
                self.assertRead(read_place, place_by_words, other)

    def test_no_places(self):
        for text in (
            "", " ", ":", ":,", "0", "0:", "0:0", "0:0,", "0:,0", ":0,0", "0,0:0", "0:0,0,0", "0:0:0,0", " 0:0,0",
            "0:0,0 ", "0: 0,0", "0:0, 0", "4:0,0", "-1:0,0", "10:0,0", "00:0,0", "0:00,0", "0:0,-0", "0:-0,0", "0:+1,0",
            "0:01,0", "0:-01,0", "0:0,1_0", "0:1.0,0", "0:--1,0", "0:-,0", "0:0,0>", ">0:0,0", "0:0,0\n", "\n0:0,0",
            "0:" + "1" * 31 + ",0", "0:0," + "9" * 31, "0:0,-1" + "0" * 30, "-0:0,0", "9" * 40 + ":0,0",
            "1" * 5000, "0:" + "1" * 5000 + ",0", "(0, 0, 0)", "P:X,Y", "0:x,y",
        ):
            with self.subTest(text):
                self.assertIsNone(place_by_words(text))
                self.assertRaises(NoText, read_place, text)
                self.assertRaises(NoText, read_way, text)
                self.assertRaises(NoText, read_way, "0:0,0>" + text + ">0:1,0")

    def test_other_figures_and_blanks(self):
        for sign in STRANGE:
            for text in (f"{sign}:0,0", f"0:{sign},0", f"0:0,{sign}", f"0:1{sign},0", f"0:0,0{sign}", f"0{sign}0,0"):
                self.assertRaises(NoText, read_place, text)
                self.assertRaises(NoText, read_way, text)
            for text in (sign, f"1{sign}", f"1{sign}0-0:0,1", f"1 0-0:0,{sign}", f"1 0-0:0,1{sign}"):
                self.assertRaises(NoText, read_grid, text)

    def test_ways_by_hand(self):
        self.assertEqual(way_text([(0, 0, 0)]), "0:0,0")
        self.assertEqual(way_text([(0, 0, 0), (1, -1, 0), (0, -1, 1)]), "0:0,0>1:-1,0>0:-1,1")
        self.assertEqual(way_text(((0, 0, 0), (1, -1, 0))), "0:0,0>1:-1,0")
        self.assertEqual(read_way("0:0,0>1:-1,0>0:-1,1"), [(0, 0, 0), (1, -1, 0), (0, -1, 1)])
        # It is read as a list of places, whatever grid there is.
        self.assertEqual(read_way("3:5,5>3:5,5>0:-7,900"), [(3, 5, 5), (3, 5, 5), (0, -7, 900)])

    def test_ways_written_and_read(self):
        for many in (1, 2, 3, 50, 399, 400):
            for far in (0, THIRTY - 400, 10 ** 29):
                way = [(at % 4, far + at, -far - at) for at in range(many)]
                self.assertEqual(read_way(way_text(way)), way)
                self.assertEqual(way_by_words(way_text(way)), way)
                self.assertIs(type(read_way(way_text(way))), list)

    def test_more_than_400_places(self):
        for many in (401, 402, 1000):
            self.assertRaises(NoText, read_way, way_text([(0, at, 0) for at in range(many)]))
        # Writing isn't bound.
        self.assertEqual(way_text([(0, 0, 0)] * 401), ">".join(["0:0,0"] * 401))

    def test_ways_a_little_changed(self):
        for text in changed("0:0,0>3:-10,2>1:7,0"):
            self.assertRead(read_way, way_by_words, text)

    def test_no_ways(self):
        for text in (
            "", ">", "0:0,0>", ">0:0,0", "0:0,0>>0:1,0", "0:0,0 > 0:1,0", "0:0,0 >0:1,0", "0:0,0> 0:1,0", "0:0,0 0:1,0",
            "0:0,0,0:1,0", "0:0,0>4:0,0", "4:0,0>0:0,0", "0:0,0-0:1,0", "0:0,0<0:1,0",
        ):
            self.assertRaises(NoText, read_way, text)

    def test_anything(self):
        things = anything() + [SQUARES, (0, 0, 0), [(0, 0, 0)], b"1", b"0:0,0", ["1"], ("0:0,0",), bytearray(b"1")]
        for read in (read_grid, read_place, read_way):
            for thing in things:
                self.assertRaises(NoText, read, thing)


class Kept(unittest.TestCase):
    def test_told_again_it_is_the_same(self):
        way = [(0, 0, 0), (1, -1, 0)]
        texts = texts_of((way,))
        self.assertEqual(way_text(way), way_text(way))
        self.assertEqual(texts_of((way,)), texts)
        told = read_way("0:0,0>1:-1,0")
        told.append("more")
        self.assertEqual(read_way("0:0,0>1:-1,0"), way)
        for grid in GRIDS:
            self.assertEqual(grid_text(grid), grid_text(grid))
            self.assertIs(type(grid_text(grid)), str)


if __name__ == "__main__":
    unittest.main()
