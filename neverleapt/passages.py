"""Runs from a first board to a last one that keep off a share."""

from math import lcm

from neverleapt.grids import Grid
from neverleapt.kinds import lift_of, share_of
from neverleapt.nets import grain_of


class Passage:
    """The runs that show a first board and, behind their last event, a last one."""

    def __init__(self, machine, first, last):
        self.machine = machine
        self.first = first
        self.last = last
        self.grain = grain_of(machine)
        start = Grid(machine, self.grain, (0,), first[0], None, 0)
        self.begins = start.standings_with(first[0], first[1])
        self.order = _by_slope(machine)

    def shown_without(self, share, low):
        """A dict of the shares that some such run shows between, it not showing a share, None if there is none.

        It keeps low, or high.
        """
        ahead = 0
        if share is not None:
            ahead = lift_of(share, self.first[0], self.first[1])
            if ahead == 0 and self.first[0] > 0:
                return None
        tries, points = self.last[0] - self.first[0], self.last[1] - self.first[1]
        grid = Grid(self.machine, self.grain, self.begins, tries, share, ahead)
        ends = grid.standings_with(tries, points)
        if not ends:
            return None
        # A run whose last events are steep has kept low.
        return self._shown(grid.row_to(tries, ends[0], points, self.order[::-1] if low else self.order))

    def _shown(self, row):
        tries, points = self.first
        shown = {share_of(points, tries): True} if tries > 0 else {}
        for number in row:
            tries += self.machine.events[number][2]
            points += self.machine.events[number][3]
            shown[share_of(points, tries)] = True
        return shown


def _by_slope(machine):
    """The list of the numbers of all events, those with the least points by tries first."""
    common = 1
    for event in machine.events:
        common = lcm(common, event[2])
    placed = sorted([(event[3] * (common // event[2]), number) for number, event in enumerate(machine.events)])
    return [number for _, number in placed]
