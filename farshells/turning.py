"""Directions, and the order in which one meets them going round."""

from farshells.ratios import greatest_common


def cross(one, other):
    """Above 0 where the other direction lies to the left of the one, by less than half a turn."""
    return one[0] * other[1] - one[1] * other[0]


def is_upper(step):
    """Whether its direction is met in the first half of a turn from (1, 0) by (0, 1)."""
    return step[1] > 0 or (step[1] == 0 and step[0] > 0)


def is_met_ahead(one, other):
    """Whether one meets the one direction ahead of the other, going round from (1, 0) by (0, 1)."""
    if is_upper(one) != is_upper(other):
        return is_upper(one)
    return cross(one, other) > 0


def in_turn(directions):
    """Unlike directions in the order in which one meets them, from (1, 0) by (0, 1)."""
    return sorted(
        directions,
        key=lambda one: len([other for other in directions if is_met_ahead(other, one)]),
    )


def least_step(step):
    """The least step of whole numbers in the direction of this one."""
    common = greatest_common(step[0], step[1])
    return step[0] // common, step[1] // common
