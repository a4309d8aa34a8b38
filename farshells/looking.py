"""How far places are from a start, as far as can be looked."""

from farshells.grids import is_place, neighbours_of, steps_from
from farshells.ratios import is_whole


def go_on(grid, far, rim, number):
    """Write down all neighbours of the rim that are new, as so far away; tell them."""
    steps = [steps_from(grid, p) for p in range(grid[0])]
    found = []
    for p, u, v in rim:
        for q, x, y in steps[p]:
            other = (q, u + x, v + y)
            if other not in far:
                far[other] = number
                found.append(other)
    return found


def far_within(grid, start, n):
    """How far each place is that is at most n far from the start."""
    home = (start, 0, 0)
    far = {home: 0}
    rim = [home]
    for number in range(1, n + 1):
        rim = go_on(grid, far, rim, number)
    return far


def look_from(grid, start, n):
    """The look to n: the rising list of all pairs (place, far) at most n far."""
    far = far_within(grid, start, n)
    return sorted((place, far[place]) for place in far)


def shells_near(grid, start, n):
    """How many places are just so far from the start, from 0 to n."""
    shells = [0] * (n + 1)
    for place, number in look_from(grid, start, n):
        shells[number] += 1
    return shells


def fits_beside(number, beside, is_home):
    """Whether a place can be so far by its neighbours' numbers: 0 for the start alone."""
    if any(abs(other - number) > 1 for other in beside):
        return False
    if is_home:
        return number == 0
    return number > 0 and number - 1 in beside


def is_sight(grid, thing):
    """Whether it is a pair of a place of the grid and a whole number."""
    if not (isinstance(thing, tuple) and len(thing) == 2):
        return False
    return is_place(grid, thing[0]) and is_whole(thing[1])


def stands_right(grid, far, n, place):
    """Whether a place that is not the start has its number by what is nearer."""
    if not 1 <= far[place] <= n:
        return False
    return any(far.get(other) == far[place] - 1 for other in neighbours_of(grid, place))


def goes_on_right(grid, far, n, place):
    """Whether nothing beside the place is left out, or further than one tie more or less."""
    if far[place] >= n:
        return True
    beside = neighbours_of(grid, place)
    return all(other in far and abs(far[other] - far[place]) <= 1 for other in beside)


def look_right(grid, start, n, look):
    """Whether it is the look to n: by what stands in it alone, without a search."""
    if not all(is_sight(grid, pair) for pair in look):
        return False
    if not all(one < other for one, other in zip(look, look[1:])):
        return False
    far = {place: number for place, number in look}
    home = (start, 0, 0)
    # A place that stands twice, with two numbers, rises all the same.
    if len(far) < len(look) or far.get(home) != 0:
        return False
    if not all(stands_right(grid, far, n, place) for place in far if place != home):
        return False
    return all(goes_on_right(grid, far, n, place) for place in far)
