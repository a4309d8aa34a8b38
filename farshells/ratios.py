"""Whole numbers and ratios of them."""

from farshells.errors import NoRatio


def is_whole(thing):
    """Whether it is a whole number: an int that is no truth."""
    return isinstance(thing, int) and not isinstance(thing, bool)


def greatest_common(one, other):
    """The greatest number that divides both, 0 where both are 0."""
    while other != 0:
        one, other = other, one % other
    return abs(one)


def least_multiple(one, other):
    """The least number from 1 on that both divide, of numbers from 1 on."""
    return one * other // greatest_common(one, other)


def is_ratio(thing):
    """Whether it is a ratio: (top, bottom) in lowest terms, the bottom from 1 on."""
    if not (isinstance(thing, tuple) and len(thing) == 2):
        return False
    if not (is_whole(thing[0]) and is_whole(thing[1])):
        return False
    return thing[1] >= 1 and greatest_common(thing[0], thing[1]) == 1


def ratio_of(top, bottom):
    """The ratio of top by bottom; NoRatio where bottom is 0."""
    if bottom == 0:
        raise NoRatio("nothing is a ratio by 0")
    common = greatest_common(top, bottom)
    if bottom < 0:
        common = -common
    return top // common, bottom // common


def ratio_plus(one, other):
    """Both ratios together."""
    return ratio_of(one[0] * other[1] + other[0] * one[1], one[1] * other[1])


def ratio_times(one, other):
    """One ratio times the other."""
    return ratio_of(one[0] * other[0], one[1] * other[1])


def ratio_over(one, other):
    """One ratio by the other; NoRatio where the other is nought."""
    return ratio_of(one[0] * other[1], one[1] * other[0])


def is_less(one, other):
    """Whether the one ratio is below the other."""
    return one[0] * other[1] < other[0] * one[1]


def whole_up(one):
    """The least whole number that is not below the ratio."""
    # Floor division rounds down, so round the negative one down and turn it back.
    return -(-one[0] // one[1])
