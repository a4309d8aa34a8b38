"""Grids, places and ways written as texts, and read."""

from farshells.errors import NoText
from farshells.grids import MOST_PLACES, is_grid

FIGURES = "0123456789"
MOST_FIGURES = 30
MOST_PLACES_READ = 400


def is_number(text, most):
    """Whether a number of at most so many figures is so written."""
    figures = text.removeprefix("-")
    if not 1 <= len(figures) <= most:
        return False
    if not all(sign in FIGURES for sign in figures):
        return False
    return figures[0] != "0" or text == "0"


def tie_text(tie):
    """A tie as it is written: A-B:X,Y."""
    a, b, x, y = tie
    return f"{a}-{b}:{x},{y}"


def grid_text(grid):
    """The grid as it is written: its number of places, and each tie behind a blank."""
    return " ".join([str(grid[0])] + [tie_text(tie) for tie in grid[1]])


def place_text(place):
    """The place as it is written: P:X,Y."""
    p, x, y = place
    return f"{p}:{x},{y}"


def way_text(way):
    """The way as it is written: its places with > between."""
    return ">".join([place_text(place) for place in way])


def read_numbers(texts):
    """The numbers that are written, each in a text of its own; NoText."""
    if not all(is_number(text, MOST_FIGURES) for text in texts):
        raise NoText("this is no number as numbers are written")
    return tuple([int(text) for text in texts])


def text_parts(text, signs):
    """What stands ahead of, between and behind the signs, each of which is looked for once, in order."""
    parts = []
    rest = text
    for sign in signs:
        # Where the sign isn't there, what is behind it is empty, and so no number.
        part, found, rest = rest.partition(sign)
        parts.append(part)
    return parts + [rest]


def read_grid(thing):
    """The grid that is so written; NoText, of anything."""
    if not isinstance(thing, str):
        raise NoText("only a text is read")
    words = thing.split(" ")
    places = read_numbers(words[:1])[0]
    grid = (places, tuple([read_numbers(text_parts(word, "-:,")) for word in words[1:]]))
    if not is_grid(grid):
        raise NoText("this is written as no grid is")
    return grid


def read_place(thing):
    """The place that is so written, its first number from 0 to 3; NoText, of anything."""
    if not isinstance(thing, str):
        raise NoText("only a text is read")
    place = read_numbers(text_parts(thing, ":,"))
    if not 0 <= place[0] < MOST_PLACES:
        raise NoText("no grid has such a place")
    return place


def read_way(thing):
    """The list of one to 400 places that is so written; NoText, of anything."""
    if not isinstance(thing, str):
        raise NoText("only a text is read")
    words = thing.split(">")
    if len(words) > MOST_PLACES_READ:
        raise NoText("a way is read of at most 400 places")
    return [read_place(word) for word in words]
