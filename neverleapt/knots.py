"""Which standings are reached, and which of them hang together in knots."""

from neverleapt.kinds import is_whole


def _steps(machine, side, far_side):
    """For each standing those one event away; the sides are 0 for before and 1 for after."""
    steps = [[] for _ in range(machine.standings)]
    for event in machine.events:
        steps[event[side]].append(event[far_side])
    return steps


def _spread(steps, start):
    """A dict with all standings to which steps lead from a standing, itself with them."""
    found = {start: True}
    waiting = [start]
    while waiting:
        here = waiting.pop()
        for standing in steps[here]:
            if standing not in found:
                found[standing] = True
                waiting.append(standing)
    return found


def reached(machine):
    """The ascending tuple of the standings to which runs lead."""
    return tuple(sorted(_spread(_steps(machine, 0, 1), 0)))


def knots(machine):
    """The ascending list of all knots, each an ascending tuple of standings."""
    forth = _steps(machine, 0, 1)
    back = _steps(machine, 1, 0)
    found = []
    placed = set()
    for standing in reached(machine):
        if standing in placed:
            continue
        leading = _spread(back, standing)
        knot = [other for other in sorted(_spread(forth, standing)) if other in leading]
        for other in knot:
            placed.add(other)
        found.append(tuple(knot))
    return found


def knots_in_order(machine):
    """The list of all knots, each ahead of those to which events lead from it."""
    forth = _steps(machine, 0, 1)
    # A knot leads to more standings than each one to which it leads.
    placed = sorted([(-len(_spread(forth, knot[0])), knot) for knot in knots(machine)])
    return [knot for _, knot in placed]


def knot_of(machine, thing):
    """The knot in which a reached standing is, None for each other thing."""
    if not is_whole(thing):
        return None
    for knot in knots(machine):
        if thing in knot:
            return knot
    return None


def inner_events(machine, knot):
    """The numbers of the events that lead from standings of a knot to such; each is in a ring."""
    return [
        number
        for number, event in enumerate(machine.events)
        if event[0] in knot and event[1] in knot
    ]


def hangs(machine):
    """Whether the machine has one knot alone, and a ring."""
    first, *others = knots(machine)
    return not others and len(inner_events(machine, first)) > 0
