"""Two rows held against one another: alike for ever, or parted, and where."""

from farshells.finding import cones_of
from farshells.ratios import is_whole
from farshells.rows import row_of, row_shell

ALIKE = "alike"
PARTED = "parted"


def shells_enough(one, other):
    """How many shells two rows must have alike in order to be alike for ever."""
    longer = max(len(one[0]), len(other[0]))
    periods = len(one[1]), len(other[1])
    return longer - min(periods) + 2 * periods[0] + 2 * periods[1]


def rows_held(one, other):
    """("alike", how many shells show it) or ("parted", n, both shells n), n being the first that is unlike."""
    enough = shells_enough(one, other)
    for n in range(enough):
        shells = row_shell(one, n), row_shell(other, n)
        if shells[0] != shells[1]:
            return PARTED, n, shells[0], shells[1]
    return ALIKE, enough


def held_right(one, other, told):
    """Whether it is just what rows_held tells of the two rows."""
    # True is the same as 1 to Python, but no whole number.
    return told == rows_held(one, other) and all(is_whole(number) for number in told[1:])


def start_row(grid, start):
    """The row of a start; NotTogether, TooMany."""
    return row_of(grid, cones_of(grid, start))


def starts_held(grid, start, other, behind):
    """What rows_held tells of the rows of start and, of the other grid, behind; NotTogether, TooMany."""
    one = start_row(grid, start)
    return rows_held(one, start_row(other, behind))


def start_groups(grid):
    """The rising list of tuples of starts whose rows are alike; NotTogether, TooMany."""
    rows = [start_row(grid, start) for start in range(grid[0])]
    groups = {}
    for start, row in enumerate(rows):
        # Starts of one grid have the same period, so rows that are alike are told by the same numbers.
        groups.setdefault(row, []).append(start)
    return sorted([tuple(groups[row]) for row in groups])
