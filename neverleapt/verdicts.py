"""Whether no run leaps over a share, and the rule that decides it event by event."""

from neverleapt.balance import Balance
from neverleapt.checks import check_share, check_way
from neverleapt.comings import coming
from neverleapt.errors import NotBalanced, TooMany
from neverleapt.kinds import lift_of
from neverleapt.knots import reached
from neverleapt.leapsearch import Search, upward
from neverleapt.rings import is_balanced
from neverleapt.tables import leap_start

GREATEST_STEP = 4000
FEW_STATES = 1000
MOST_STATES = 100000


def never(machine, share, way):
    """Whether no run leaps over a share this way."""
    check_share(share)
    check_way(way)
    machine, share = upward(machine, share, way)
    if is_balanced(machine, share):
        return not Balance(machine).leaping_up(share)
    # Few states are soon gone through, and of most machines that are not balanced there are few.
    search = Search(machine, share, (0, 0), FEW_STATES, True)
    if search.whole or search.leaps:
        return not search.leaps
    return not leaping_events(machine, share, True)


def leaping_events(machine, share, one_leap):
    """The list of the pairs (lift, event) of all events that leap up in some run, or one of them if that is enough."""
    if is_balanced(machine, share):
        return Balance(machine).leaping_up(share)
    try:
        lots = coming(machine, share)
    except TooMany:
        return _searched(machine, share, one_leap)
    found = []
    for number in _met(machine):
        before, _, tries, points = machine.events[number]
        lift = lift_of(share, tries, points)
        if leap_start(lots[before], lift, "up") is not None:
            found.append((lift, number))
    return found


def _met(machine):
    """The numbers of the events of reached standings."""
    standings = reached(machine)
    return [number for number, event in enumerate(machine.events) if event[0] in standings]


def _searched(machine, share, one_leap):
    search = Search(machine, share, (0, 0), MOST_STATES, one_leap)
    if not search.whole and not (one_leap and search.leaps):
        raise TooMany(GREATEST_STEP)
    numbers = sorted({number for _, number in search.leaps})
    return [(lift_of(share, machine.events[number][2], machine.events[number][3]), number) for number in numbers]


def rule(machine, share, way):
    """For each event that lifts this way its number, by how much, and how much is let."""
    check_share(share)
    check_way(way)
    if not is_balanced(machine, share):
        raise NotBalanced()
    machine, share = upward(machine, share, way)
    return Balance(machine).rule_up(share)
