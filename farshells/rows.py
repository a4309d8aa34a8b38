"""The row of a paper of cones: its first shells, and by how much they rise from period to period."""

from farshells.errors import TooMany
from farshells.ratios import least_multiple
from farshells.terms import paper_terms

LONGEST_PERIOD = 2000


def row_period(paper):
    """The least common multiple of the ties of the paper's rays; TooMany above 2000."""
    period = 1
    for step, ties in paper[1]:
        period = least_multiple(period, ties)
    if period > LONGEST_PERIOD:
        raise TooMany("the row has too long a period")
    return period


def firsts_by_steps(terms, many):
    """For each steps of terms, how many terms with these are first at each number below so many."""
    firsts = {steps: [0] * many for (first, steps), often in terms}
    for (first, steps), often in terms:
        firsts[steps][first] += often
    return firsts


def gone_on(firsts, steps):
    """How many numbers the terms have, each from its first one on by so many of each step."""
    counts = list(firsts)
    for step in steps:
        for n in range(step, len(counts)):
            counts[n] += counts[n - step]
    return counts


def shells_below(terms, many):
    """So many shells, from 0 on, by the terms."""
    shells = [0] * many
    firsts = firsts_by_steps(terms, many)
    for steps in firsts:
        shells = [one + other for one, other in zip(shells, gone_on(firsts[steps], steps))]
    return shells


def last_rises(shells, period):
    """For each rest by the period, by how much the last shell with it is above the one a period ahead."""
    rises = [0] * period
    for n in range(len(shells) - period, len(shells)):
        rises[n % period] = shells[n] - shells[n - period]
    return tuple(rises)


def fewest_shells(shells, rises):
    """How many shells, as many as there are rises at least, must be told so that the rises tell the others."""
    period = len(rises)
    fewest = period
    for n in range(period, len(shells)):
        if shells[n] != shells[n - period] + rises[n % period]:
            fewest = n + 1
    return fewest


def row_of(grid, paper):
    """The row (shells, rises) of a paper that holds, with as few shells as can be; TooMany."""
    period = row_period(paper)
    terms = paper_terms(grid, paper)
    # A period beyond the last term's first number all shells rise for good: the last period told is such.
    last = max([first for (first, steps), many in terms])
    shells = shells_below(terms, last + 2 * period + 1)
    rises = last_rises(shells, period)
    return tuple(shells[:fewest_shells(shells, rises)]), rises


def row_shell(row, n):
    """How many places are n far, by the row."""
    shells, rises = row
    if n < len(shells):
        return shells[n]
    behind = (n - len(shells)) // len(rises) + 1
    return shells[n - behind * len(rises)] + behind * rises[n % len(rises)]
