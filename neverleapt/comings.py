"""All values that come at each standing of a machine, knot by knot."""

from math import lcm

from neverleapt.errors import TooMany
from neverleapt.kinds import is_below, lift_of
from neverleapt.knots import inner_events, knots_in_order
from neverleapt.lots import borders, formed, merged, moved, rests_by, turned
from neverleapt.rings import ends, measure
from neverleapt.ringsearch import ways
from neverleapt.risings import FARTHEST, GREATEST_STEP, risen


def coming(machine, share):
    """The list of the lots of the values that come at each standing; TooMany where they cannot be told."""
    lifts = [lift_of(share, event[2], event[3]) for event in machine.events]
    lots = [formed(0, 0, (), 1, (), ()) for _ in range(machine.standings)]
    lots[0] = formed(0, 1, (0,), 1, (), ())
    for knot in knots_in_order(machine):
        spread = _through(machine, share, lifts, knot, lots)
        for standing in knot:
            lots[standing] = spread[standing]
        for number, event in enumerate(machine.events):
            if event[0] in knot and event[1] not in knot:
                lots[event[1]] = _both(lots[event[1]], moved(lots[event[0]], lifts[number]))
    return lots


def _both(lot, second):
    low, high = borders(lot, second)
    if lcm(lot.step, second.step) > GREATEST_STEP or high - low > FARTHEST:
        raise TooMany(GREATEST_STEP)
    return merged(lot, second, False)


def _through(machine, share, lifts, knot, lots):
    """A dict with what comes at each standing of a knot, the lots being those that come into it."""
    numbers = inner_events(machine, knot)
    into = {standing: lots[standing] for standing in knot}
    if not numbers:
        return into
    low, high = ends(machine, knot[0])
    step = measure(machine, share, knot[0])
    if is_below(low, share) and is_below(share, high):
        return _all_round(_offsets(machine, lifts, numbers, knot), into, step)
    if step == 0:
        return _level(_offsets(machine, lifts, numbers, knot), into)
    events = [(machine.events[number][0], machine.events[number][1], lifts[number]) for number in numbers]
    if is_below(share, high):
        return risen(events, into, step)
    # Falling is rising with all signs turned round.
    events = [(before, after, -lift) for before, after, lift in events]
    found = risen(events, {standing: turned(lot) for standing, lot in into.items()}, step)
    return {standing: turned(lot) for standing, lot in found.items()}


def _offsets(machine, lifts, numbers, knot):
    """The lift of some way from the first standing of a knot to each."""
    found = ways(machine, numbers, knot[0])
    return {standing: sum([lifts[number] for number in found[standing]]) for standing in knot}


def _all_round(offsets, into, step):
    """Where rings lift and others sink, all numbers with the right rests come."""
    if step > GREATEST_STEP:
        raise TooMany(GREATEST_STEP)
    first = {}
    for standing, lot in into.items():
        for rest in rests_by(lot, step):
            first[(rest - offsets[standing]) % step] = True
    found = {}
    for standing, offset in offsets.items():
        rests = sorted([(rest + offset) % step for rest in first])
        found[standing] = formed(0, 0, (), step, rests, rests)
    return found


def _level(offsets, into):
    """Where all rings lift by 0, each number that comes into the knot comes once at each standing."""
    first = formed(0, 0, (), 1, (), ())
    for standing, lot in into.items():
        first = _both(first, moved(lot, -offsets[standing]))
    return {standing: moved(first, offset) for standing, offset in offsets.items()}
