"""What comes at the standings of a knot of which no ring sinks and some rise."""

from heapq import heappop, heappush
from math import lcm

from neverleapt.errors import TooMany
from neverleapt.lots import formed, merged, moved, tail_rests

GREATEST_STEP = 4000
FARTHEST = 100000
MOST_PLACES = 100000


def risen(events, into, step):
    """A dict with the lot that comes at each standing of a knot.

    The events are triples (before, after, lift), step is the measure, into has the lots that come into it.
    """
    far = _least_lifts(events, into)
    first = min(list(into))
    base = {standing: far[(first, standing)] for standing in into}
    # Told from these bases no event sinks: what comes least of each rest can be found upwards.
    rises = [(before, after, lift + base[before] - base[after]) for before, after, lift in events]
    round_lift = _round_lift(rises, far, base, first)
    if round_lift * len(base) > MOST_PLACES:
        raise TooMany(GREATEST_STEP)
    least = _least_numbers(rises, _begins(into, base, round_lift), base, round_lift)
    tails = _tails(into, base, step)
    found = {}
    for standing in base:
        lot = _with_tails(_from_least(sorted(list(least[standing].values())), round_lift), tails, step)
        if lot.step > GREATEST_STEP:
            raise TooMany(GREATEST_STEP)
        found[standing] = moved(lot, base[standing])
    return found


def _least_lifts(events, into):
    """A dict with the least lift of all ways from each standing to each."""
    far = {(one, one): 0 for one in into}
    for before, after, lift in events:
        far[(before, after)] = min(lift, far.get((before, after), lift))
    for middle in into:
        for one in into:
            for other in into:
                if (one, middle) in far and (middle, other) in far:
                    lift = far[(one, middle)] + far[(middle, other)]
                    far[(one, other)] = min(lift, far.get((one, other), lift))
    return far


def _round_lift(rises, far, base, first):
    """The lift above 0 of some way round through all standings: what comes at one, comes so much higher, too."""
    left = [standing for standing in base if standing != first]
    here = first
    whole = 0
    while left:
        rise, there = min([(far[(here, other)] + base[here] - base[other], other) for other in left])
        whole += rise
        left = [standing for standing in left if standing != there]
        here = there
    whole += far[(here, first)] + base[here]
    if whole > 0:
        return whole
    # A way round without any rise can be led through each ring as well.
    rings = [rise + far[(after, before)] + base[after] - base[before] for before, after, rise in rises]
    return min([ring for ring in rings if ring > 0])


def _begins(into, base, round_lift):
    """The pairs (number, standing), numbers told from the bases, of what comes into the knot but for endless tails."""
    found = []
    for standing, lot in into.items():
        rounds = lcm(lot.step, round_lift) // lot.step
        if rounds * len(lot.above) > MOST_PLACES:
            raise TooMany(GREATEST_STEP)
        numbers = list(lot.members)
        for rest in lot.above:
            number = lot.high + (rest - lot.high) % lot.step
            numbers.extend([number + lot.step * turn for turn in range(rounds)])
        found.extend([(number - base[standing], standing) for number in numbers])
    return sorted(found)


def _least_numbers(rises, begins, base, round_lift):
    """For each standing a dict with the least number that comes, told from the bases, of each rest by the round."""
    steps = {standing: [] for standing in base}
    for before, after, rise in rises:
        steps[before].append((after, rise))
    least = {standing: {} for standing in base}
    queue = begins
    while queue:
        number, standing = heappop(queue)
        if number % round_lift in least[standing]:
            continue
        least[standing][number % round_lift] = number
        for after, rise in steps[standing]:
            if (number + rise) % round_lift not in least[after]:
                heappush(queue, (number + rise, after))
    return least


def _from_least(numbers, step):
    """The lot of some numbers, with all that are whole steps above them; no two have the same rest."""
    if not numbers:
        return formed(0, 0, (), 1, (), ())
    low, high = numbers[0], numbers[-1]
    if high - step - low > FARTHEST:
        raise TooMany(GREATEST_STEP)
    members = [
        number + step * turn
        for number in numbers
        for turn in range((high - number + step - 1) // step)
    ]
    return formed(low, high, sorted(members), step, (), sorted([number % step for number in numbers]))


def _tails(into, base, step):
    """The rests by the measure, told from the bases, that come whatever the number: those of endless tails below."""
    found = {}
    for standing, lot in into.items():
        for rest in tail_rests(lot.below, lot.step, step):
            found[(rest - base[standing]) % step] = True
    return sorted(found)


def _with_tails(lot, tails, step):
    if not tails:
        return lot
    if step > GREATEST_STEP:
        raise TooMany(GREATEST_STEP)
    return merged(lot, formed(0, 0, (), step, tails, tails), False)
