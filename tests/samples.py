"""What several tests hand in: things of every kind, and grids to ask about."""

import random


def anything():
    """Things of every kind but numbers with a point, made anew for each asker."""
    return [
        True, False, None, "", "0", "(0, 1)", "ab", b"", b"ab", [], [0], [0, 1], [1, ()],
        [0, 0, 0], [0, 0, 0, 1], {}, {0: 1}, {0: 1, 2: 3}, set(), {1, 2}, frozenset((1, 2, 3)),
        (), (0,), ((),), (None,), (None, None), ((), ()), ([], []), ("a", "b"), ("1", "2"),
        (None, None, None), ("a", "b", "c"), ([], [], []), ({}, {}, {}), ("0", "0", "0", "1"),
        range(2), range(3), object(), len, int, lambda: 0, 0, 1, -1, 5, 10 ** 60, -10 ** 60,
        bytearray(b"abc"), Exception("x"), iter(()), (True, ()), (1, None), (1, []), (1, {}),
        (1, "ab"), (1, 0), ({}, ()), ((1,), ()), (1, (None,)), (1, ((),)), (1, ("0001",)),
    ]


def texts_of(things):
    """How things look, to see later whether they are still so."""
    return [repr(thing) for thing in things]


def all_ties(places):
    """Every tie that a grid of so many places can have, rising."""
    steps = [(x, y) for x in (-1, 0, 1) for y in (-1, 0, 1)]
    return sorted(
        (a, b, x, y) for a in range(places) for b in range(a, places) for x, y in steps
        if a < b or (x, y) > (0, 0)
    )


def some_grids(many, seed=1):
    """So many grids of one to four places with up to sixteen ties, always the same ones."""
    chance = random.Random(seed)
    grids = []
    for _ in range(many):
        places = chance.randint(1, 4)
        ties = all_ties(places)
        count = min(len(ties), chance.choice((1, 2, 3, 3, 4, 4, 5, 5, 6, 7, 8, 10, 12, 16)))
        grids.append((places, tuple(sorted(chance.sample(ties, count)))))
    return grids


SQUARES = (1, ((0, 0, 0, 1), (0, 0, 1, 0)))
KINGS = (1, ((0, 0, 0, 1), (0, 0, 1, -1), (0, 0, 1, 0), (0, 0, 1, 1)))
TRIANGLES = (1, ((0, 0, 0, 1), (0, 0, 1, 0), (0, 0, 1, 1)))
HONEYCOMB = (2, ((0, 1, -1, 0), (0, 1, 0, -1), (0, 1, 0, 0)))
KAGOME = (3, ((0, 1, -1, 0), (0, 1, 0, 0), (0, 2, 0, -1), (0, 2, 0, 0), (1, 2, 0, 0), (1, 2, 1, -1)))
OCTAGONS = (4, ((0, 1, 0, 0), (0, 2, 0, 0), (0, 3, -1, 0), (1, 2, 0, -1), (1, 3, 0, 0), (2, 3, 0, 0)))
# Its rounds go several cells on, so it takes many ties to come just one cell on.
CROOKED = (4, ((0, 1, -1, 1), (0, 2, -1, 0), (0, 2, 1, -1), (0, 3, 1, 1), (1, 2, 0, 1), (2, 3, -1, -1)))

TOGETHER = (SQUARES, KINGS, TRIANGLES, HONEYCOMB, KAGOME, OCTAGONS, CROOKED)

BARE = (1, ())
BARE_FOUR = (4, ())
LINES = (1, ((0, 0, 0, 1),))
CROSS_LINES = (1, ((0, 0, 1, 1),))
CHECKERS = (1, ((0, 0, 1, -1), (0, 0, 1, 1)))
LONE_PLACE = (2, ((0, 0, 0, 1), (0, 0, 1, 0)))
TWO_LAYERS = (2, ((0, 0, 0, 1), (0, 0, 1, 0), (1, 1, 0, 1), (1, 1, 1, 0)))
BRICKED_LINES = (3, ((0, 1, 0, 0), (0, 2, 1, 0), (1, 2, 0, 0)))
# All rounds go by even numbers in x: 0 - 1 - 0 goes (2, 0), and (0, 0, 0, 1) keeps x.
EVEN_ROUNDS = (2, ((0, 0, 0, 1), (0, 1, -1, 0), (0, 1, 1, 0)))
# All rounds go by multiples of 3 in x.
THIRDS = (3, ((0, 0, 0, 1), (0, 1, 1, 0), (0, 2, -1, 0), (1, 2, 1, 0)))
# The same where the places of the round are first come to from the last one.
THIRDS_BACK = (4, ((0, 0, 0, 1), (0, 3, 0, 0), (1, 2, -1, 0), (1, 3, 1, 0), (2, 3, -1, 0)))
THIRDS_UP = (4, ((0, 0, 1, 0), (0, 3, 0, 0), (1, 2, 0, -1), (1, 3, 0, 1), (2, 3, 0, -1)))
# All rounds have sums of x and y that are even.
EVEN_SUMS = (2, ((0, 1, -1, 0), (0, 1, 0, -1), (0, 1, 0, 1), (0, 1, 1, 0)))

APART = (
    BARE, BARE_FOUR, LINES, CROSS_LINES, CHECKERS, LONE_PLACE, TWO_LAYERS, BRICKED_LINES,
    EVEN_ROUNDS, THIRDS, THIRDS_BACK, THIRDS_UP, EVEN_SUMS,
)


def ties_from(grid, place):
    """The neighbours of a place, by the words of point 6, in no order."""
    p, u, v = place
    return {(b, u + x, v + y) for a, b, x, y in grid[1] if a == p} | {
        (a, u - x, v - y) for a, b, x, y in grid[1] if b == p
    }


def searched(grid, start, n):
    """How far each place at most n far is, by a search of its own."""
    shells = [{(start, 0, 0)}]
    seen = set(shells[0])
    for _ in range(n):
        shells.append(set().union(*(ties_from(grid, place) for place in shells[-1])) - seen)
        seen |= shells[-1]
    return {place: number for number, shell in enumerate(shells) for place in shell}


def is_walked(grid, way):
    """Whether each place of the way but the first is tied to the one ahead, and it has one at least."""
    return len(way) > 0 and all(other in ties_from(grid, one) for one, other in zip(way, way[1:]))
