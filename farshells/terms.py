"""The terms of a paper of cones that holds, and the shells that they tell for every n."""

from farshells.cones import cone_ties
from farshells.ratios import least_multiple


def steps_at(ties, most, i, j):
    """The steps of the term at (i, j) of a table: the ties of each ray along which it goes on from there."""
    return tuple(sorted([step for step, at in zip(ties, (i, j)) if at == most]))


def table_terms(table, ties):
    """The terms of one table, by the ties of its cone's rays, each as often as it is there."""
    most = len(table) - 1
    return [
        (number, steps_at(ties, most, i, j))
        for i, row in enumerate(table) for j, number in enumerate(row)
    ]


def all_terms(paper):
    """The terms of home and of all tables, in no order, each as often as it is there."""
    most, rays, home, cones = paper
    terms = [(number, ()) for number in home]
    for cone, rests in enumerate(cones):
        ties = cone_ties(rays, cone)
        for tables in rests:
            for table in tables:
                terms.extend(table_terms(table, ties))
    return terms


def paper_terms(grid, paper):
    """The rising list of pairs (term, how many) of a paper that holds."""
    many = {}
    for term in all_terms(paper):
        many[term] = many.get(term, 0) + 1
    return sorted(many.items())


def multiples_below_common(one, other):
    """(firsts, common): all multiples of the one step are one of the firsts and whole common multiples."""
    common = least_multiple(one, other)
    return list(range(0, common, one)), common


def pairs_just(one, other, rest):
    """In how many ways so many of the one and of the other step are together just the rest."""
    firsts, common = multiples_below_common(one, other)
    return sum([
        (rest - first) // common + 1
        for first in firsts if first <= rest and (rest - first) % other == 0
    ])


def pairs_within(one, other, rest):
    """In how many ways so many of the one and of the other step are together at most the rest."""
    firsts, common = multiples_below_common(one, other)
    ways = 0
    for first in firsts:
        if first <= rest:
            # With each common multiple more of the one step there is room for as many fewer of the other.
            most = (rest - first) // common
            room = (rest - first) // other + 1
            ways += (most + 1) * room - common // other * (most * (most + 1) // 2)
    return ways


def often_just(steps, rest):
    """In how many ways so many of each step, from 0 on, are together just the rest."""
    if rest < 0:
        return 0
    if len(steps) == 2:
        return pairs_just(steps[0], steps[1], rest)
    if len(steps) == 1:
        return 1 if rest % steps[0] == 0 else 0
    return 1 if rest == 0 else 0


def often_within(steps, rest):
    """In how many ways so many of each step, from 0 on, are together at most the rest."""
    if rest < 0:
        return 0
    if len(steps) == 2:
        return pairs_within(steps[0], steps[1], rest)
    if len(steps) == 1:
        return rest // steps[0] + 1
    return 1


def shell_far(grid, paper, n):
    """How many places are n far, by a paper that holds."""
    return sum([many * often_just(steps, n - first) for (first, steps), many in paper_terms(grid, paper)])


def all_within(grid, paper, n):
    """How many places are at most n far, by a paper that holds."""
    return sum([many * often_within(steps, n - first) for (first, steps), many in paper_terms(grid, paper)])
