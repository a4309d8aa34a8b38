"""A desk that keeps a grid: rows of words change it or ask about it."""

from farshells.errors import NoBack, NoGrid, NoLine, NoText
from farshells.finding import cones_of
from farshells.grids import made_grid, tie_from_first
from farshells.growth import growth_of
from farshells.hanging import hangs_together
from farshells.held import start_groups
from farshells.rows import row_of
from farshells.shape import shape_of
from farshells.terms import all_within, shell_far
from farshells.texts import grid_text, is_number, read_grid, read_place
from farshells.ways import way_to

FURTHEST = 10 ** 60
MOST_FIGURES = 61
GRID = "grid "

# What stands behind the first word of each row but `grid TEXT`, which has no number of words.
FORMS = {
    "tie": ("start", "start", "step", "step"),
    "cut": ("start", "start", "step", "step"),
    "back": (),
    "show": (),
    "hangs": (),
    "far": ("start", "text"),
    "shell": ("start", "n"),
    "within": ("start", "n"),
    "row": ("start",),
    "growth": (),
    "groups": (),
    "corners": (),
}


def fits_form(grid, form, word):
    """Whether the word is one such as can stand there, by the grid there is now."""
    # A text that isn't written as it should be is refused otherwise, and later.
    if form == "text":
        return True
    if not is_number(word, MOST_FIGURES):
        return False
    number = int(word)
    if form == "start":
        return 0 <= number < grid[0]
    if form == "step":
        return -1 <= number <= 1
    return 0 <= number <= FURTHEST


def read_row(grid, row):
    """(first word, a list of what stands behind it, numbers as such), of a row but `grid TEXT`; NoLine."""
    words = row.split(" ")
    if words[0] not in FORMS:
        raise NoLine("no row begins so")
    forms = FORMS[words[0]]
    if len(words) != 1 + len(forms):
        raise NoLine("the row has too few words, or too many")
    if not all(fits_form(grid, form, word) for form, word in zip(forms, words[1:])):
        raise NoLine("some word of the row can't stand there")
    return words[0], [word if form == "text" else int(word) for form, word in zip(forms, words[1:])]


def grid_with(grid, tie):
    """The grid with one tie more; NoGrid."""
    more = tie_from_first(tuple(tie), grid[0])
    if more in grid[1]:
        raise NoGrid("the tie is there")
    return made_grid(grid[0], grid[1] + (more,))


def grid_without(grid, tie):
    """The grid with one tie less; NoGrid."""
    less = tie_from_first(tuple(tie), grid[0])
    if less not in grid[1]:
        raise NoGrid("the tie isn't there")
    return made_grid(grid[0], [other for other in grid[1] if other != less])


def tell_grid(grid, told):
    """The grid's text."""
    return grid_text(grid)


def tell_hanging(grid, told):
    """Whether the grid hangs together."""
    return "yes" if hangs_together(grid) else "no"


def tell_far(grid, told):
    """How far a place is from a start; NoText, TooFar."""
    place = read_place(told[1])
    if place[0] >= grid[0]:
        raise NoText("the grid has no such place")
    return str(len(way_to(grid, told[0], place)) - 1)


def tell_shell(grid, told):
    """How many places are n far from a start; NotTogether, TooMany."""
    return str(shell_far(grid, cones_of(grid, told[0]), told[1]))


def tell_within(grid, told):
    """How many places are at most n far from a start; NotTogether, TooMany."""
    return str(all_within(grid, cones_of(grid, told[0]), told[1]))


def tell_row(grid, told):
    """The period of a start's row, and how many shells it has; NotTogether, TooMany."""
    shells, rises = row_of(grid, cones_of(grid, told[0]))
    return f"{len(rises)} {len(shells)}"


def tell_growth(grid, told):
    """The growth, by start 0; NotTogether, TooMany."""
    top, bottom = growth_of(grid, cones_of(grid, 0))
    return f"{top}/{bottom}"


def tell_groups(grid, told):
    """The groups of starts whose rows are alike; NotTogether, TooMany."""
    return " ".join(["+".join([str(start) for start in group]) for group in start_groups(grid)])


def tell_corners(grid, told):
    """The corners of the shape; NotTogether."""
    return " ".join([f"{x},{y}/{length}" for x, y, length in shape_of(grid)[0]])


ANSWERS = {
    "show": tell_grid,
    "hangs": tell_hanging,
    "far": tell_far,
    "shell": tell_shell,
    "within": tell_within,
    "row": tell_row,
    "growth": tell_growth,
    "groups": tell_groups,
    "corners": tell_corners,
}


class Desk:
    """A desk, at first with a grid of one place without ties."""

    def __init__(self):
        self.grid = (1, ())
        self.earlier = []

    def say(self, row):
        """The answer to a row; NoLine, NoBack, NoText, NoGrid, and as the functions refuse."""
        if row.startswith(GRID):
            return self.go_over(read_grid(row.removeprefix(GRID)))
        word, told = read_row(self.grid, row)
        if word == "back":
            return self.go_back()
        if word == "tie":
            return self.go_over(grid_with(self.grid, told))
        if word == "cut":
            return self.go_over(grid_without(self.grid, told))
        answer = ANSWERS[word]
        return answer(self.grid, told)

    def go_over(self, grid):
        """Keep another grid from now on, and which one there was ahead of it."""
        self.earlier.append(self.grid)
        self.grid = grid
        return "ok"

    def go_back(self):
        """Keep the grid as it was ahead of the last deed that isn't taken back; NoBack."""
        if len(self.earlier) == 0:
            raise NoBack("no deed is left to take back")
        self.grid = self.earlier.pop()
        return "ok"
