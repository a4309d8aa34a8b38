"""Ribbons, grids in one direction alone, and the rules of how far their places are."""

from farshells.grids import are_ties, is_places, is_tuple_of_wholes
from farshells.looking import fits_beside
from farshells.ratios import is_whole

MOST_TIES = 8
LONGEST_STEP = 2


def is_ribbon(thing):
    """Whether it is a ribbon: (places, ties)."""
    if not (isinstance(thing, tuple) and len(thing) == 2):
        return False
    return is_places(thing[0]) and are_ties(thing[1], thing[0], 1, LONGEST_STEP) and len(thing[1]) <= MOST_TIES


def ribbon_neighbours(ribbon, place):
    """The neighbours of a ribbon's place (p, x)."""
    p, u = place
    onward = [(b, u + x) for a, b, x in ribbon[1] if a == p]
    backward = [(a, u - x) for a, b, x in ribbon[1] if b == p]
    return onward + backward


def steps_over(distance, step):
    """The least number of steps that are together no less than the distance."""
    return -(-distance // step)


def rule_number(ribbon, rule, place):
    """The number that the rule tells of the place (p, x)."""
    middle, right, left, rows = rule
    p, x = place
    if x > middle:
        times = steps_over(x - middle, right[0])
        return rows[x - times * right[0] + middle][p] + times * right[1]
    if x < -middle:
        times = steps_over(-middle - x, left[0])
        return rows[x + times * left[0] + middle][p] + times * left[1]
    return rows[x + middle][p]


def is_side(thing, middle):
    """Whether it is a pair (step, rise), both from 1 on, the step not above middle."""
    return is_tuple_of_wholes(thing, 2) and 1 <= thing[0] <= middle and thing[1] >= 1


def is_row(thing, places):
    """Whether it is a tuple of a number from 0 on for each place."""
    return is_tuple_of_wholes(thing, places) and min(thing) >= 0


def is_rule(ribbon, thing):
    """Whether it has the form of a rule for the ribbon."""
    if not (isinstance(thing, tuple) and len(thing) == 4):
        return False
    middle, right, left, rows = thing
    if not (is_whole(middle) and is_side(right, middle) and is_side(left, middle)):
        return False
    if not (isinstance(rows, tuple) and len(rows) == 2 * middle + 1):
        return False
    return all(is_row(row, ribbon[0]) for row in rows)


def number_right(ribbon, start, rule, place):
    """Whether a place's number fits those of its neighbours, and is 0 of the start alone."""
    number = rule_number(ribbon, rule, place)
    beside = [rule_number(ribbon, rule, other) for other in ribbon_neighbours(ribbon, place)]
    return fits_beside(number, beside, place == (start, 0))


def rule_holds(ribbon, start, rule):
    """Whether the rule tells how far each place is from the start, by the cells near the middle."""
    if not is_rule(ribbon, rule):
        return False
    middle, right, left, rows = rule
    # Beyond these cells each place stands among its neighbours as it does one step nearer.
    leftmost = -(middle + left[0] + LONGEST_STEP)
    rightmost = middle + right[0] + LONGEST_STEP
    return all(
        number_right(ribbon, start, rule, (p, x))
        for x in range(leftmost, rightmost + 1) for p in range(ribbon[0])
    )
