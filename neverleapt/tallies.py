"""Sums over the rows of events that leap over a share, or show it, with their last event for the first time.

Each row counts the product of the factors of its events and of what is behind it: behind has, for each number
of events that are left, from none on, a list with so much for each standing.
"""

from neverleapt.kinds import lift_of
from neverleapt.leapsearch import upward


def leaping_sum(machine, share, way, factors, behind):
    """The sum over the rows from standing 0 that leap with their last event for the first time."""
    machine, share = upward(machine, share, way)
    lifts = _lifts(machine, share)
    hits = [(-lift, 0) for lift in lifts]
    return _sum_of_firsts(machine, lifts, hits, _windows(machine, lifts, 0, len(behind)), factors, behind)


def meeting_sum(machine, share, factors, behind):
    """The sum over the rows from standing 0 that show the share with their last event for the first time."""
    most_tries = max([event[2] for event in machine.events], default=0)
    # The share is shown only behind whole multiples of its bottom of tries.
    if share[1] > most_tries * (len(behind) - 1):
        return 0
    lifts = _lifts(machine, share)
    hits = [(-lift - 1, -lift + 1) for lift in lifts]
    return _sum_of_firsts(machine, lifts, hits, _windows(machine, lifts, 1, len(behind)), factors, behind)


def _lifts(machine, share):
    return [lift_of(share, tries, points) for _, _, tries, points in machine.events]


def _windows(machine, lifts, edge, many):
    """For each number of events left, from none on, and each standing the two bounds of what can still hit.

    The values between them, less than the edge, can come both above 0 and below it.
    """
    lows = [0] * machine.standings
    highs = lows
    windows = []
    for _ in range(many):
        windows.append([(-high - edge, -low + edge) for low, high in zip(lows, highs)])
        lows = _least_sums(machine, lifts, lows)
        highs = [-low for low in _least_sums(machine, [-lift for lift in lifts], [-high for high in highs])]
    return windows


def _least_sums(machine, lifts, sums):
    """The least lifts of rows of events by one longer than those with these sums, or of none."""
    longer = [0] * machine.standings
    for number, (before, after, _, _) in enumerate(machine.events):
        longer[before] = min(longer[before], lifts[number] + sums[after])
    return longer


def _sum_of_firsts(machine, lifts, hits, windows, factors, behind):
    """The sum, hits having for each event the two bounds of the values ahead of it from which it hits."""
    rows = [{} for _ in range(machine.standings)]
    rows[0][0] = 1
    total = 0
    for left in reversed(range(len(behind) - 1)):
        longer = [{} for _ in range(machine.standings)]
        for number, (before, after, _, _) in enumerate(machine.events):
            bounds = (hits[number], windows[left][after])
            hit = _lifted(rows[before], lifts[number], factors[number], bounds, longer[after])
            total += hit * behind[left][after]
        rows = longer
    return total


def _lifted(row, lift, factor, bounds, into):
    """Add to a row what an event makes of another one, but for what hits with it: that is told."""
    (first, last), (lowest, highest) = bounds
    hit = 0
    for value, many in row.items():
        if first < value < last:
            hit += many
        elif lowest < value + lift < highest:
            into[value + lift] = into.get(value + lift, 0) + many * factor
    return hit * factor
