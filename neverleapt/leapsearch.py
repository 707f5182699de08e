"""Looking for runs that leap up, from one standing and value to the next."""

from neverleapt.changes import mirrored
from neverleapt.kinds import lift_of


def upward(machine, share, way):
    """A machine and a share for which the runs leap up that leap this way over the share."""
    if way == "up":
        return machine, share
    return mirrored(machine), (-share[0], share[1])


class Search:
    """The states (standing, value) to which rows of events lead that may come to a leap up, the shortest rows first.

    It ends with so many states, or with the first leap if no more than one is asked for; whole tells
    whether it went through all. Leaps are pairs of the number of a state and an event.
    """

    def __init__(self, machine, share, begin, most, one_leap):
        lifts = [lift_of(share, event[2], event[3]) for event in machine.events]
        self.steps = [[] for _ in range(machine.standings)]
        for number, event in enumerate(machine.events):
            self.steps[event[0]].append((number, event[1], lifts[number]))
        self.depths = _depths(machine, lifts)
        self.heights = _depths(machine, [-lift for lift in lifts])
        self.states = [begin] if self._may_leap(begin[0], begin[1]) else []
        self.links = [None]
        self.leaps = []
        self.whole = self._go(most, one_leap)

    def _may_leap(self, standing, value):
        """Whether the value can still come below 0, and above 0."""
        depth, height = self.depths[standing], self.heights[standing]
        return (depth is None or value + depth < 0) and (height is None or -value + height < 0)

    def _go(self, most, one_leap):
        seen = {state: True for state in self.states}
        place = 0
        while place < len(self.states):
            standing, value = self.states[place]
            for number, after, lift in self.steps[standing]:
                state = (after, value + lift)
                if value < 0 and value + lift > 0:
                    self.leaps.append((place, number))
                    if one_leap:
                        return False
                if state not in seen and self._may_leap(after, value + lift):
                    if len(self.states) == most:
                        return False
                    seen[state] = True
                    self.states.append(state)
                    self.links.append((place, number))
            place += 1
        return True

    def row_with(self, leap):
        """The row of events that a leap ends: the first leap has the least of the shortest ones."""
        place, number = leap
        row = [number]
        while self.links[place] is not None:
            place, number = self.links[place]
            row.append(number)
        return tuple(reversed(row))


def _depths(machine, lifts):
    """For each standing the least lift of all rows of events from there on, None if there is none."""
    depths = [0] * machine.standings
    for _ in range(machine.standings):
        for number, event in enumerate(machine.events):
            depths[event[0]] = min(depths[event[0]], lifts[number] + depths[event[1]])
    endless = {}
    for _ in range(machine.standings):
        for number, event in enumerate(machine.events):
            # What still sinks is led by a ring, and so is all that leads there.
            if event[1] in endless or lifts[number] + depths[event[1]] < depths[event[0]]:
                endless[event[0]] = True
    return [None if standing in endless else depth for standing, depth in enumerate(depths)]
