"""Ways through a knot, and the rings of a knot with the greatest share."""

from neverleapt.kinds import lift_of


def total(machine, row):
    """All tries and all points of a row of events."""
    tries = sum([machine.events[number][2] for number in row])
    points = sum([machine.events[number][3] for number in row])
    return (tries, points)


def row_lift(machine, share, row):
    """The sum of the lifts of a row of events."""
    tries, points = total(machine, row)
    return lift_of(share, tries, points)


def ways(machine, numbers, start):
    """A dict with a row of these events from a standing to each one that they reach."""
    found = {start: ()}
    waiting = [start]
    while waiting:
        here = waiting.pop()
        for number in numbers:
            before, after, tries, points = machine.events[number]
            if before == here and after not in found:
                found[after] = found[here] + (number,)
                waiting.append(after)
    return found


def best_ring(machine, numbers, sign):
    """A ring of the inner events of a knot with the greatest share, or, if the sign is -1, the least."""
    best = _some_ring(machine, numbers)
    while True:
        tries, points = total(machine, best)
        # Lifts for the share of this ring: another one is better just if its lift is above 0.
        lifts = [sign * (tries * event[3] - points * event[2]) for event in machine.events]
        ring = _rising_ring(machine, numbers, lifts)
        if ring is None:
            return best
        best = ring


def _some_ring(machine, numbers):
    """A ring through the first of the inner events of a knot."""
    first = numbers[0]
    before, after, tries, points = machine.events[first]
    return (first,) + ways(machine, numbers, after)[before]


def _rising_ring(machine, numbers, lifts):
    """A ring whose lift is above 0, None if there is none."""
    height = [0] * machine.standings
    last = [None] * machine.standings
    for _ in range(machine.standings):
        risen = _rise(machine, numbers, lifts, height, last)
        if risen is None:
            return None
    return _ring_back(machine, last, risen)


def _rise(machine, numbers, lifts, height, last):
    """Lift each standing as high as one more event can, noting that event; tell one that rose, or None."""
    risen = None
    for number in numbers:
        before, after, tries, points = machine.events[number]
        if height[before] + lifts[number] > height[after]:
            height[after] = height[before] + lifts[number]
            last[after] = number
            risen = after
    return risen


def _ring_back(machine, last, standing):
    """The ring to which the noted events lead back from a standing that rose in the last of so many rounds."""
    for _ in range(machine.standings):
        standing = machine.events[last[standing]][0]
    ring = [last[standing]]
    while machine.events[ring[-1]][0] != standing:
        ring.append(last[machine.events[ring[-1]][0]])
    return tuple(reversed(ring))
