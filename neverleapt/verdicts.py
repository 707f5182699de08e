"""Whether no run leaps over a share, and the rule that decides it event by event."""

from math import gcd

from neverleapt.balance import Balance
from neverleapt.checks import check_share, check_way
from neverleapt.comings import coming
from neverleapt.errors import NotBalanced, TooMany
from neverleapt.kinds import lift_of
from neverleapt.leapsearch import Search, upward
from neverleapt.machines import made
from neverleapt.rings import is_balanced
from neverleapt.tables import leap_start

GREATEST_STEP = 4000
FEW_STATES = 1000
MOST_STATES = 100000


def never(machine, share, way):
    """Whether no run leaps over a share this way."""
    check_share(share)
    check_way(way)
    machine, share = upward(machine, share, way)
    if is_balanced(machine, share):
        return not Balance(machine).leaping_up(share)
    # Few states are soon gone through, and of most machines that are not balanced there are few.
    search = Search(machine, share, (0, 0), FEW_STATES, True)
    if search.whole or search.leaps:
        return not search.leaps
    return not leaping_events(machine, share, True)


def leaping_events(machine, share, one_leap):
    """The list of the pairs (lift, event) of all events that leap up in some run, or one of them if that is enough."""
    if is_balanced(machine, share):
        return Balance(machine).leaping_up(share)
    low, whole = _levelled(machine, share)
    try:
        lots = coming(low, (0, 1))
    except TooMany:
        return _searched(machine, share, one_leap)
    return [
        (whole * lift, number)
        for number, (before, _, _, lift) in enumerate(low.events)
        if leap_start(lots[before], lift, "up") is not None
    ]


def _levelled(machine, share):
    """A machine whose lifts over the share 0 are those over the share by the greatest integer that divides all."""
    lifts = [lift_of(share, tries, points) for _, _, tries, points in machine.events]
    whole = 0
    for lift in lifts:
        whole = gcd(whole, lift)
    whole = max(whole, 1)
    return made(machine.standings, tuple([
        (before, after, tries, lifts[number] // whole)
        for number, (before, after, tries, _) in enumerate(machine.events)
    ])), whole


def _searched(machine, share, one_leap):
    search = Search(machine, share, (0, 0), MOST_STATES, one_leap)
    if not search.whole and not (one_leap and search.leaps):
        raise TooMany(GREATEST_STEP)
    numbers = sorted({number for _, number in search.leaps})
    return [(lift_of(share, machine.events[number][2], machine.events[number][3]), number) for number in numbers]


def rule(machine, share, way):
    """For each event that lifts this way its number, by how much, and how much is let."""
    check_share(share)
    check_way(way)
    if not is_balanced(machine, share):
        raise NotBalanced()
    machine, share = upward(machine, share, way)
    return Balance(machine).rule_up(share)
