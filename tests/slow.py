"""Slow ways of working out, run by run, what leaps, and what values come."""

from fractions import Fraction
from math import gcd

SHARES = [(0, 1), (1, 1), (-1, 1), (1, 2), (2, 3), (4, 5), (7, 10), (-3, 2), (3, 1), (-1, 3)]
# Shares with tops and bottoms of thirty figures.
GREAT_SHARES = [
    (10 ** 29 + 1, 10 ** 29), (-3, 10 ** 29), (2, 10 ** 29 + 1), (3 * 10 ** 29 + 1, 10 ** 29 - 3), (10 ** 29 + 7, 1),
    (-10 ** 29 - 10, 7),
]


def lift(share, event):
    return share[1] * event[3] - share[0] * event[2]


def states_of(machine, share, far):
    """The set of all (standing, value) to which runs lead without a value further than so far from 0."""
    found = {(0, 0)}
    waiting = [(0, 0)]
    while waiting:
        standing, value = waiting.pop()
        for event in machine.events:
            state = (event[1], value + lift(share, event))
            if event[0] == standing and abs(state[1]) <= far and state not in found:
                found.add(state)
                waiting.append(state)
    return found


def leaping_runs(machine, share, way, most):
    """All runs of at most so many events whose last event leaps, each with its tries ahead of that and its lift."""
    sign = 1 if way == "up" else -1
    found = []
    newest = [((), 0, 0, 0)]
    for _ in range(most):
        longer = []
        for run, standing, tries, value in newest:
            for number, event in enumerate(machine.events):
                if event[0] == standing:
                    rise = sign * lift(share, event)
                    longer.append((run + (number,), event[1], tries + event[2], value + rise))
                    if value < 0 < value + rise:
                        found.append((run + (number,), tries, rise))
        newest = longer
    return found


def fractions_between(low, high, bottom):
    """The ascending list of all shares from low to high, both with them, of bottoms up to one."""
    low, high = Fraction(*low), Fraction(*high)
    found = []
    for one in range(1, bottom + 1):
        for top in range(int(low * one) - 1, int(high * one) + 2):
            if gcd(top, one) == 1 and low <= Fraction(top, one) <= high:
                found.append(Fraction(top, one))
    return [(share.numerator, share.denominator) for share in sorted(found)]
