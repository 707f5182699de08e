"""Rows of events that lead from standing 0 back to it and change no value."""

from math import gcd

from neverleapt.errors import TooMany
from neverleapt.rings import end_rings
from neverleapt.ringsearch import row_lift, total, ways

MOST_EVENTS = 1000000
MOST_STATES = 100000


def even_row(machine, share, tries):
    """Such a row with so many tries or more, the machine being balanced for the share."""
    if tries == 0:
        return ()
    sinking, rising = end_rings(machine, 0)
    numbers = list(range(len(machine.events)))
    low = machine.events[sinking[0]][0]
    high = machine.events[rising[0]][0]
    there = ways(machine, numbers, 0)[high]
    across = ways(machine, numbers, high)[low]
    back = ways(machine, numbers, low)[0]
    walk = there + across + back
    walks, rises, sinks = _rounds(
        row_lift(machine, share, walk), len(walk),
        row_lift(machine, share, rising), -row_lift(machine, share, sinking),
    )
    if walks * len(walk) + rises * len(rising) + sinks * len(sinking) > MOST_EVENTS:
        raise TooMany(MOST_STATES)
    row = there + rising * rises + across + sinking * sinks + back + walk * (walks - 1)
    return row * -(-tries // total(machine, row)[0])


def _rounds(lift, length, rise, sink):
    """How often to go a walk with this lift, round what rises and round what sinks, so that nothing is left."""
    shared = gcd(rise, sink)
    walks = shared // gcd(shared, lift)
    if walks * length > MOST_EVENTS:
        raise TooMany(MOST_STATES)
    for rises in range(1, MOST_EVENTS + 1):
        left = walks * lift + rises * rise
        if left >= 0 and left % sink == 0:
            return walks, rises, left // sink
    raise TooMany(MOST_STATES)
