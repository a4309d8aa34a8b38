"""The rule of a ribbon, found, and the shells that a rule tells."""

from farshells.errors import NotTogether
from farshells.hanging import hangs_together
from farshells.ratios import least_multiple
from farshells.ribbons import LONGEST_STEP, ribbon_neighbours


def ribbon_together(ribbon):
    """Whether the ribbon hangs together."""
    # Ties straight across, too, make a grid of it that hangs together just where it does.
    ties = [(a, b, x, 0) for a, b, x in ribbon[1]] + [(0, 0, 0, 1)]
    return hangs_together((ribbon[0], ties))


def next_ring(ribbon, far, rim, number):
    """Write down all neighbours of the rim that are new, as so far away; tell them."""
    found = []
    for place in rim:
        for other in ribbon_neighbours(ribbon, place):
            if other not in far:
                far[other] = number
                found.append(other)
    return found


def far_along(ribbon, start, edge):
    """How far all places are of cells at most so far from cell 0, and some more."""
    wanted = [(p, x) for x in range(-edge, edge + 1) for p in range(ribbon[0])]
    far = {(start, 0): 0}
    rim = [(start, 0)]
    number = 0
    while any(place not in far for place in wanted):
        number += 1
        rim = next_ring(ribbon, far, rim, number)
    return far


def edge_for(middle, step):
    """The furthest cell whose number a rule needs in order to hold: a neighbour of the furthest one judged."""
    return middle + step + 2 * LONGEST_STEP


def goes_on_by(ribbon, far, middle, step, sign):
    """The rise by which all numbers beyond middle are those a step nearer, 0 where there is none."""
    rise = far[(0, sign * (middle + 1))] - far[(0, sign * (middle + 1 - step))]
    if all(
        far[(p, sign * x)] - far[(p, sign * (x - step))] == rise
        for x in range(middle + 1, edge_for(middle, step) + 1) for p in range(ribbon[0])
    ):
        return max(rise, 0)
    return 0


def side_of(ribbon, far, middle, sign):
    """The shortest step and its rise by which the numbers go on beyond middle, None where there is none."""
    for step in range(1, middle + 1):
        rise = goes_on_by(ribbon, far, middle, step, sign)
        if rise > 0:
            return step, rise
    return None


def rule_within(ribbon, start, middle):
    """The rule with this middle, None where none holds."""
    far = far_along(ribbon, start, edge_for(middle, middle))
    right = side_of(ribbon, far, middle, 1)
    left = side_of(ribbon, far, middle, -1)
    if right is None or left is None:
        return None
    rows = [tuple([far[(p, x)] for p in range(ribbon[0])]) for x in range(-middle, middle + 1)]
    return middle, right, left, tuple(rows)


def ribbon_rule(ribbon, start):
    """The rule with the least middle of how far all places are from the start; NotTogether."""
    if not ribbon_together(ribbon):
        raise NotTogether("no rule tells how far places are that no way leads to")
    middle = 1
    rule = rule_within(ribbon, start, middle)
    while rule is None:
        middle += 1
        rule = rule_within(ribbon, start, middle)
    return rule


def repeated_numbers(rule):
    """The numbers that go on beyond the middle: a pair of them and their rise for each side."""
    middle, right, left, rows = rule
    ends = rows[len(rows) - right[0]:], rows[:left[0]]
    return [
        ([number for row in end for number in row], side[1])
        for end, side in zip(ends, (right, left))
    ]


def counts_by_rest(numbers, rise):
    """How many of the numbers leave each rest by the rise."""
    counts = [0] * rise
    for number in numbers:
        counts[number % rise] += 1
    return counts


def ribbon_period(ribbon, rule):
    """(from, counts): the shells from `from` on, which is 1 more than the greatest number of rows."""
    first = 1 + max(max(row) for row in rule[3])
    period = least_multiple(rule[1][1], rule[2][1])
    sides = [counts_by_rest(numbers, rise) for numbers, rise in repeated_numbers(rule)]
    return first, tuple([sum([side[n % len(side)] for side in sides]) for n in range(first, first + period)])


def ribbon_shell(ribbon, rule, n):
    """How many places are n far, by the rule."""
    shell = sum([row.count(n) for row in rule[3]])
    for numbers, rise in repeated_numbers(rule):
        # A number that goes on is told of a further place only from one rise above it on.
        shell += len([number for number in numbers if number < n and (n - number) % rise == 0])
    return shell
