"""Nets: all sums of whole multiples of pairs (tries, points), told by two pairs at the most."""

from math import gcd

from neverleapt.knots import reached
from neverleapt.ringsearch import total, ways


def net_of(machine, numbers, start):
    """The net of the rounds that these events make, followed either way, from a standing that they hang on."""
    first = (0, 0)
    rest = 0
    for pair in _round_pairs(machine, numbers, start):
        first, points = _without_tries(first, pair)
        rest = gcd(rest, points)
    tries, points = first
    if tries == 0:
        # Only rounds against the arrows, of events that are in no ring, can have points without tries.
        return ((0, rest),) if rest else ()
    if tries < 0:
        tries, points = -tries, -points
    if rest == 0:
        return ((tries, points),)
    return ((tries, points % rest), (0, rest))


def _round_pairs(machine, numbers, start):
    """Pairs of which the net is all sums of whole multiples, one for each event.

    An event is followed from the first standing and left by the way there: of such differences each
    ring is a sum, and where all standings lead to each other, each of them is one of rings.
    """
    found = ways(machine, numbers, start)
    sums = {standing: total(machine, found[standing]) for standing in found}
    pairs = []
    for number in numbers:
        before, after, tries, points = machine.events[number]
        pairs.append((
            sums[before][0] + tries - sums[after][0],
            sums[before][1] + points - sums[after][1],
        ))
    return pairs


def _without_tries(pair, other):
    """Two pairs made one pair and some points, without tries, of which both are sums."""
    while other[0] != 0:
        many = pair[0] // other[0]
        pair, other = other, (pair[0] - many * other[0], pair[1] - many * other[1])
    return pair, other[1]


def grain_of(machine):
    """An integer that divides all differences of the points of runs with the same tries and the same end.

    It is the greatest one, or 1 where there are no such differences.
    """
    standings = reached(machine)
    numbers = [number for number, event in enumerate(machine.events) if event[0] in standings]
    pairs = net_of(machine, numbers, 0)
    if pairs and pairs[-1][0] == 0:
        return pairs[-1][1]
    return 1
