"""What several tests hand in: things of every kind, and grids to ask about."""

import random


def anything():
    """Things of every kind but numbers with a point, made anew for each asker."""
    return [
        True, False, None, "", "0", "(0, 1)", "ab", b"", b"ab", [], [0], [0, 1], [1, ()],
        [0, 0, 0], [0, 0, 0, 1], {}, {0: 1}, {0: 1, 2: 3}, set(), {1, 2}, frozenset((1, 2, 3)),
        (), (0,), ((),), (None,), (None, None), ((), ()), ([], []), ("a", "b"), ("1", "2"),
        (None, None, None), ("a", "b", "c"), ([], [], []), ({}, {}, {}), ("0", "0", "0", "1"),
        range(2), range(3), object(), len, int, lambda: 0, 0, 1, -1, 5, 10 ** 60, -10 ** 60,
        bytearray(b"abc"), Exception("x"), iter(()), (True, ()), (1, None), (1, []), (1, {}),
        (1, "ab"), (1, 0), ({}, ()), ((1,), ()), (1, (None,)), (1, ((),)), (1, ("0001",)),
    ]


def texts_of(things):
    """How things look, to see later whether they are still so."""
    return [repr(thing) for thing in things]


def all_ties(places):
    """Every tie that a grid of so many places can have, rising."""
    steps = [(x, y) for x in (-1, 0, 1) for y in (-1, 0, 1)]
    return sorted(
        (a, b, x, y) for a in range(places) for b in range(a, places) for x, y in steps
        if a < b or (x, y) > (0, 0)
    )


def some_grids(many, seed=1):
    """So many grids of one to four places with up to sixteen ties, always the same ones."""
    chance = random.Random(seed)
    grids = []
    for _ in range(many):
        places = chance.randint(1, 4)
        ties = all_ties(places)
        count = min(len(ties), chance.choice((1, 2, 3, 3, 4, 4, 5, 5, 6, 7, 8, 10, 12, 16)))
        grids.append((places, tuple(sorted(chance.sample(ties, count)))))
    return grids


SQUARES = (1, ((0, 0, 0, 1), (0, 0, 1, 0)))
KINGS = (1, ((0, 0, 0, 1), (0, 0, 1, -1), (0, 0, 1, 0), (0, 0, 1, 1)))
TRIANGLES = (1, ((0, 0, 0, 1), (0, 0, 1, 0), (0, 0, 1, 1)))
HONEYCOMB = (2, ((0, 1, -1, 0), (0, 1, 0, -1), (0, 1, 0, 0)))
KAGOME = (3, ((0, 1, -1, 0), (0, 1, 0, 0), (0, 2, 0, -1), (0, 2, 0, 0), (1, 2, 0, 0), (1, 2, 1, -1)))
OCTAGONS = (4, ((0, 1, 0, 0), (0, 2, 0, 0), (0, 3, -1, 0), (1, 2, 0, -1), (1, 3, 0, 0), (2, 3, 0, 0)))
# One round of four ties goes three cells on, another one four, so it takes many ties to come one cell on.
CROOKED = (4, ((0, 1, 1, 1), (0, 3, -1, -1), (1, 2, 1, 1), (2, 3, 0, 1), (2, 3, 1, 0)))

TOGETHER = (SQUARES, KINGS, TRIANGLES, HONEYCOMB, KAGOME, OCTAGONS)

BARE = (1, ())
BARE_FOUR = (4, ())
LINES = (1, ((0, 0, 0, 1),))
CROSS_LINES = (1, ((0, 0, 1, 1),))
CHECKERS = (1, ((0, 0, 1, -1), (0, 0, 1, 1)))
LONE_PLACE = (2, ((0, 0, 0, 1), (0, 0, 1, 0)))
TWO_LAYERS = (2, ((0, 0, 0, 1), (0, 0, 1, 0), (1, 1, 0, 1), (1, 1, 1, 0)))
BRICKED_LINES = (3, ((0, 1, 0, 0), (0, 2, 1, 0), (1, 2, 0, 0)))
# All rounds go by even numbers in x: 0 - 1 - 0 goes (2, 0), and (0, 0, 0, 1) keeps x.
EVEN_ROUNDS = (2, ((0, 0, 0, 1), (0, 1, -1, 0), (0, 1, 1, 0)))
# All rounds go by multiples of 3 in x.
THIRDS = (3, ((0, 0, 0, 1), (0, 1, 1, 0), (0, 2, -1, 0), (1, 2, 1, 0)))
# All rounds have sums of x and y that are even.
EVEN_SUMS = (2, ((0, 1, -1, 0), (0, 1, 0, -1), (0, 1, 0, 1), (0, 1, 1, 0)))

APART = (
    BARE, BARE_FOUR, LINES, CROSS_LINES, CHECKERS, LONE_PLACE, TWO_LAYERS, BRICKED_LINES,
    EVEN_ROUNDS, THIRDS, EVEN_SUMS,
)
