"""How likely a share is leapt over, or shown, where events come by weights."""

from math import lcm

from neverleapt.checks import check_share, check_way
from neverleapt.errors import NoNumber, NoWeights
from neverleapt.kinds import is_between, share_of
from neverleapt.knots import reached
from neverleapt.tallies import leaping_sum, meeting_sum

GREATEST_WEIGHT = 99
MOST_EVENTS = 40


def chance(machine, share, way, weights, many):
    """The chance that some of the first so many events leaps."""
    check_share(share)
    check_way(way)
    _check_weights(machine, weights, many)
    factors, whole = _factors(machine, weights)
    behind = _powers(machine, whole, many)
    return share_of(leaping_sum(machine, share, way, factors, behind), behind[many][0])


def meeting_chance(machine, share, weights, many):
    """The chance that the share is shown behind some of the first so many events."""
    check_share(share)
    _check_weights(machine, weights, many)
    factors, whole = _factors(machine, weights)
    behind = _powers(machine, whole, many)
    return share_of(meeting_sum(machine, share, factors, behind), behind[many][0])


def _check_weights(machine, weights, many):
    if not isinstance(weights, tuple) or len(weights) != len(machine.events):
        raise NoWeights()
    if not all([is_between(weight, 1, GREATEST_WEIGHT) for weight in weights]):
        raise NoWeights()
    if not is_between(many, 0, MOST_EVENTS):
        raise NoNumber()


def _factors(machine, weights):
    """The chances of all events, each where it can come, as parts of one whole, and this whole."""
    sums = [0] * machine.standings
    for weight, event in zip(weights, machine.events):
        sums[event[0]] += weight
    whole = 1
    for standing in reached(machine):
        whole = lcm(whole, max(sums[standing], 1))
    # What is never reached has no part in the whole, and its chance is never asked for.
    return [weight * (whole // sums[event[0]]) for weight, event in zip(weights, machine.events)], whole


def _powers(machine, whole, many):
    """For each number of events up to many a list with as many wholes, multiplied, for each standing."""
    power = 1
    found = [[1] * machine.standings]
    for _ in range(many):
        power *= whole
        found.append([power] * machine.standings)
    return found
