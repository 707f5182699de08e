"""Lifts over a share, and what the rings of a knot tell of it."""

from math import gcd

from neverleapt.errors import NoEvent, NoKnot, NoRun, NoShare, NoStanding
from neverleapt.kinds import is_below, is_share, share_of
from neverleapt.knots import hangs, inner_events, knot_of
from neverleapt.machines import has_event, is_run
from neverleapt.ringsearch import best_ring, total, ways


def lift(machine, share, event):
    """How far an event lifts the value for a share."""
    if not is_share(share):
        raise NoShare()
    if not has_event(machine, event):
        raise NoEvent()
    return _lift_of(share, total(machine, (event,)))


def value(machine, share, run):
    """The sum of the lifts of a run."""
    if not is_share(share):
        raise NoShare()
    if not is_run(machine, run):
        raise NoRun()
    return _lift_of(share, total(machine, run))


def _lift_of(share, pair):
    return share[1] * pair[1] - share[0] * pair[0]


def measure(machine, share, standing):
    """The greatest integer that divides the lifts of all rings of a knot, 0 if all are 0."""
    if not is_share(share):
        raise NoShare()
    return _measure(machine, share, _knot(machine, standing))


def _measure(machine, share, knot):
    divisor = 0
    for pair in _net(machine, knot):
        divisor = gcd(divisor, _lift_of(share, pair))
    return divisor


def _knot(machine, standing):
    knot = knot_of(machine, standing)
    if knot is None:
        raise NoStanding()
    return knot


def lead(machine, share, one, other):
    """The lift of a way from the one standing to the other, less whole measures."""
    if not is_share(share):
        raise NoShare()
    knot = _knot(machine, one)
    if _knot(machine, other) != knot:
        raise NoKnot()
    way = ways(machine, inner_events(machine, knot), one)[other]
    rise = _lift_of(share, total(machine, way))
    divisor = _measure(machine, share, knot)
    return rise % divisor if divisor else rise


def net(machine, standing):
    """The pairs of which the net of a knot is all sums of whole multiples."""
    return _net(machine, _knot(machine, standing))


def _net(machine, knot):
    first = (0, 0)
    rest = 0
    for pair in _round_pairs(machine, knot):
        first, points = _without_tries(first, pair)
        rest = gcd(rest, points)
    tries, points = first
    if tries == 0:
        return ()
    if tries < 0:
        tries, points = -tries, -points
    if rest == 0:
        return ((tries, points),)
    return ((tries, points % rest), (0, rest))


def _round_pairs(machine, knot):
    """Pairs of which the net of a knot is all sums of whole multiples, one for each event in it.

    An event is followed from the first standing and left by the way there: of such differences each
    ring is a sum, and as all standings lead to each other, each of them is one of rings.
    """
    numbers = inner_events(machine, knot)
    found = ways(machine, numbers, knot[0])
    sums = {standing: total(machine, found[standing]) for standing in knot}
    pairs = []
    for number in numbers:
        before, after, tries, points = machine.events[number]
        pairs.append((
            sums[before][0] + tries - sums[after][0],
            sums[before][1] + points - sums[after][1],
        ))
    return pairs


def _without_tries(pair, other):
    """Two pairs made one pair and some points, without tries, of which both are sums."""
    while other[0] != 0:
        many = pair[0] // other[0]
        pair, other = other, (pair[0] - many * other[0], pair[1] - many * other[1])
    return pair, other[1]


def area(machine, standing):
    """How many pairs of integers there are to one of the net, 0 if its pairs are all of one share."""
    pairs = net(machine, standing)
    return pairs[0][0] * pairs[1][1] if len(pairs) == 2 else 0


def ends(machine, standing):
    """The least and the greatest share of the rings of a knot, None without a ring."""
    rings = end_rings(machine, standing)
    if rings is None:
        return None
    return (_share_of_ring(machine, rings[0]), _share_of_ring(machine, rings[1]))


def _share_of_ring(machine, ring):
    tries, points = total(machine, ring)
    return share_of(points, tries)


def end_rings(machine, standing):
    """A ring of the knot with the least share and one with the greatest, None without a ring."""
    numbers = inner_events(machine, _knot(machine, standing))
    if not numbers:
        return None
    return (best_ring(machine, numbers, -1), best_ring(machine, numbers, 1))


def is_balanced(machine, thing):
    """Whether a thing is a share, and the machine hangs together, with rings below and above it."""
    if not is_share(thing) or not hangs(machine):
        return False
    low, high = ends(machine, 0)
    return is_below(low, thing) and is_below(thing, high)
