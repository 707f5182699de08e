"""Mends: which events to strike, or how many to bundle, so that nothing leaps."""

from itertools import combinations

from neverleapt.changes import LONGEST_BUNDLE, bundled, struck
from neverleapt.checks import check_share, check_way
from neverleapt.errors import NoNumber, TooMany
from neverleapt.kinds import is_ascending, is_between
from neverleapt.verdicts import never

MOST_EVENTS = 12


def fewest_struck(machine, share, way):
    """The least number of events without which no run leaps, and the least tuple of so many such ones."""
    check_share(share)
    check_way(way)
    total = len(machine.events)
    if total > MOST_EVENTS:
        raise TooMany(MOST_EVENTS)
    # Lots of events with which alone some run leaps: each mend strikes one of each.
    leaping = []
    for many in range(total + 1):
        for events in combinations(range(total), many):
            if not _leaves_one(leaping, events):
                left = [number for number in range(total) if number not in events]
                if _never_with(machine, share, way, left):
                    return (many, events)
                leaping.append(_fewest_leaping(machine, share, way, left))
    return None


def _leaves_one(lots, events):
    """Whether one of several lots of events stays whole where these events are struck."""
    for lot in lots:
        if not any([number in events for number in lot]):
            return True
    return False


def _never_with(machine, share, way, numbers):
    """Whether no run of these events alone leaps."""
    others = [number for number in range(len(machine.events)) if number not in numbers]
    return never(struck(machine, tuple(others)), share, way)


def _fewest_leaping(machine, share, way, numbers):
    """Some of these events of which none can be left out, some run of them leaping."""
    for number in list(numbers):
        fewer = [other for other in numbers if other != number]
        if _surely_leaps(machine, share, way, fewer):
            numbers = fewer
    return numbers


def _surely_leaps(machine, share, way, numbers):
    """Whether some run of these events alone leaps; False, too, where that cannot be told."""
    try:
        return not _never_with(machine, share, way, numbers)
    except TooMany:
        return False


def is_mend(machine, share, way, thing):
    """Whether a thing is an ascending tuple of events without which no run leaps."""
    check_share(share)
    check_way(way)
    if not is_ascending(thing, 0, len(machine.events) - 1):
        return False
    return never(struck(machine, thing), share, way)


def least_shown(machine, share, way, most):
    """The least number of events to bundle, up to most, so that no run leaps, None if there is none."""
    check_share(share)
    check_way(way)
    if not is_between(most, 1, LONGEST_BUNDLE):
        raise NoNumber()
    for many in range(1, most + 1):
        if never(bundled(machine, many), share, way):
            return many
    return None
