"""Lifts over a share, and what the rings of a knot tell of it."""

from math import gcd

from neverleapt.checks import check_share
from neverleapt.errors import NoEvent, NoKnot, NoRun, NoStanding
from neverleapt.kinds import is_below, is_share, lift_of, share_of
from neverleapt.knots import hangs, inner_events, knot_of
from neverleapt.machines import has_event, is_run
from neverleapt.nets import net_of
from neverleapt.ringsearch import best_ring, row_lift, total, ways


def lift(machine, share, event):
    """How far an event lifts the value for a share."""
    check_share(share)
    if not has_event(machine, event):
        raise NoEvent()
    return row_lift(machine, share, (event,))


def value(machine, share, run):
    """The sum of the lifts of a run."""
    check_share(share)
    if not is_run(machine, run):
        raise NoRun()
    return row_lift(machine, share, run)


def measure(machine, share, standing):
    """The greatest integer that divides the lifts of all rings of a knot, 0 if all are 0."""
    check_share(share)
    return _measure(machine, share, _knot(machine, standing))


def _measure(machine, share, knot):
    divisor = 0
    for tries, points in _net(machine, knot):
        divisor = gcd(divisor, lift_of(share, tries, points))
    return divisor


def _knot(machine, standing):
    knot = knot_of(machine, standing)
    if knot is None:
        raise NoStanding()
    return knot


def lead(machine, share, one, other):
    """The lift of a way from the one standing to the other, less whole measures."""
    check_share(share)
    knot = _knot(machine, one)
    if _knot(machine, other) != knot:
        raise NoKnot()
    way = ways(machine, inner_events(machine, knot), one)[other]
    rise = row_lift(machine, share, way)
    divisor = _measure(machine, share, knot)
    return rise % divisor if divisor else rise


def net(machine, standing):
    """The pairs of which the net of a knot is all sums of whole multiples."""
    return _net(machine, _knot(machine, standing))


def _net(machine, knot):
    return net_of(machine, inner_events(machine, knot), knot[0])


def area(machine, standing):
    """How many pairs of integers there are to one of the net, 0 if its pairs are all of one share."""
    pairs = net(machine, standing)
    return pairs[0][0] * pairs[1][1] if len(pairs) == 2 else 0


def ends(machine, standing):
    """The least and the greatest share of the rings of a knot, None without a ring."""
    rings = end_rings(machine, standing)
    if rings is None:
        return None
    return (_share_of_ring(machine, rings[0]), _share_of_ring(machine, rings[1]))


def _share_of_ring(machine, ring):
    tries, points = total(machine, ring)
    return share_of(points, tries)


def end_rings(machine, standing):
    """A ring of the knot with the least share and one with the greatest, None without a ring."""
    numbers = inner_events(machine, _knot(machine, standing))
    if not numbers:
        return None
    return (best_ring(machine, numbers, -1), best_ring(machine, numbers, 1))


def is_balanced(machine, thing):
    """Whether a thing is a share, and the machine hangs together, with rings below and above it."""
    if not is_share(thing) or not hangs(machine):
        return False
    low, high = ends(machine, 0)
    return is_below(low, thing) and is_below(thing, high)
