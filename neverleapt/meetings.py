"""How often runs show a share between two boards, told from one showing to the next."""

from neverleapt.bitrows import lowest
from neverleapt.grids import Grid
from neverleapt.kinds import lift_of
from neverleapt.nets import grain_of


class Meetings:
    """The runs that show a first board and, behind their last event, a last one, and where they show a share.

    A showing behind the first board is a pair (tries, standing). The value being 0 at each, the same rows
    lead on from all showings at a standing: so one grid for each standing tells how they follow each other.
    """

    def __init__(self, machine, first, last, share):
        self.machine = machine
        self.grain = grain_of(machine)
        self.first = first
        self.last = last
        self.share = share
        self.start = Grid(machine, self.grain, (0,), first[0], None, 0)
        self.ahead = lift_of(share, first[0], first[1])
        self.ends_shown = lift_of(share, last[0], last[1]) == 0
        begins = self.start.standings_with(first[0], first[1])
        self.source = self._grid(begins, last[0] - first[0], self.ahead)
        self.begun = {(first[0] + tries, standing): True for tries, standing in self.source.met}
        # By standing: for each standing of a next showing a row with bit (last tries less tries between) set.
        self.hops = {}
        # By standing: a dict of the tries of those showings at it behind which none need come.
        self.closing = {}

    def _grid(self, begins, tries, ahead):
        return Grid(self.machine, self.grain, begins, tries, self.share, ahead)

    def _points_at(self, tries):
        """The points with which the share is shown behind so many tries."""
        return self.share[0] * tries // self.share[1]

    def showings(self, most):
        """How often the share is shown at the least or the most, and the showings behind the first board, or None."""
        levels = [{}]
        found = None if self._straight() is None else (0, None)
        for tries in range(self.first[0] + 1, self.last[0] + 1):
            if tries % self.share[1]:
                continue
            for standing in range(self.machine.standings):
                level = self._level(levels, tries, standing, most)
                if level == len(levels):
                    levels.append({})
                if level:
                    levels[level][standing] = levels[level].get(standing, 0) | (1 << tries)
                    self._hop_from(standing, tries)
                    if tries in self.closing[standing] and _is_better(level, found, most):
                        found = (level, (tries, standing))
        if found is None:
            return None
        at_first = 1 if self.ahead == 0 and self.first[0] > 0 else 0
        return (found[0] + at_first, self._chain(levels, found[0], found[1]))

    def _straight(self):
        """A standing to which a row leads to the last board without a showing behind the first one, or None."""
        if self.ends_shown:
            return None
        tries, points = self.last[0] - self.first[0], self.last[1] - self.first[1]
        return min(self.source.standings_with(tries, points), default=None)

    def _level(self, levels, tries, standing, most):
        """How many showings stand in the longest or shortest chain up to one, itself with them; 0 without a chain."""
        begun = (tries, standing) in self.begun
        if begun and not most:
            return 1
        places = list(range(1, len(levels)))
        if most:
            places = places[::-1]
        for level in places:
            if self._ahead_of(levels[level], tries, standing) is not None:
                return level + 1
        return 1 if begun else 0

    def _ahead_of(self, level, tries, standing):
        """A showing of a level from which a row leads to a showing without one between, or None."""
        for before, row in level.items():
            fitting = row & (self.hops[before].get(standing, 0) >> (self.last[0] - tries))
            if fitting:
                return (lowest(fitting), before)
        return None

    def _hop_from(self, standing, tries):
        """Find what can follow the showings at a standing, the first of which is behind so many tries."""
        if standing in self.hops:
            return
        grid = self._grid((standing,), self.last[0] - tries, 0)
        hops = {}
        for between, after in grid.met:
            hops[after] = hops.get(after, 0) | (1 << (self.last[0] - between))
        self.hops[standing] = hops
        self.closing[standing] = self._closings(grid, tries)

    def _closings(self, grid, first):
        """A dict of the tries, from first on, of the showings from which a grid leads to the last board."""
        if self.ends_shown:
            return {self.last[0]: True}
        found = {}
        for tries in range(first, self.last[0]):
            if tries % self.share[1] == 0:
                if grid.standings_with(self.last[0] - tries, self.last[1] - self._points_at(tries)):
                    found[tries] = True
        return found

    def _chain(self, levels, level, showing):
        """The ascending list of the showings up to one."""
        chain = []
        while level > 0:
            chain.append(showing)
            level -= 1
            showing = self._ahead_of(levels[level], showing[0], showing[1])
        return list(reversed(chain))

    def run_through(self, chain):
        """A run that shows the share, behind the first board, just at these showings."""
        order = list(range(len(self.machine.events)))
        rows = []
        grid, tries, points = self.source, self.first[0], self.first[1]
        for place, (behind, standing) in enumerate(chain):
            there = self._points_at(behind)
            if place > 0:
                grid = self._grid((chain[place - 1][1],), behind - tries, 0)
            rows.extend(grid.row_to(behind - tries, standing, there - points, order))
            tries, points = behind, there
        if not self.ends_shown:
            left, more = self.last[0] - tries, self.last[1] - points
            if chain:
                grid = self._grid((chain[-1][1],), left, 0)
            rows.extend(grid.row_to(left, grid.standings_with(left, more)[0], more, order))
        begin = self.machine.events[rows[0]][0]
        return self.start.row_to(self.first[0], begin, self.first[1], order) + tuple(rows)


def _is_better(level, found, most):
    if found is None:
        return True
    return level > found[0] if most else level < found[0]
