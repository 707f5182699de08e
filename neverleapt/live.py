"""Boards that are led live, event by event."""

from neverleapt.checks import check_share, check_way
from neverleapt.errors import NoEvent, NotHere, NothingDone
from neverleapt.kinds import lift_of, share_of
from neverleapt.leaping import leaps, meets
from neverleapt.machines import has_event


class Board:
    """A board that counts what comes, event by event, from standing to standing of a machine."""

    def __init__(self, machine):
        self._machine = machine
        # One tuple (event, standing, tries, points) for each time behind an event, and one for the begin.
        self._steps = [(None, 0, 0, 0)]

    def come(self, event):
        """Let an event come."""
        if not has_event(self._machine, event):
            raise NoEvent()
        before, after, tries, points = self._machine.events[event]
        if before != self.standing():
            raise NotHere()
        all_tries, all_points = self.shown()
        self._steps.append((event, after, all_tries + tries, all_points + points))

    def shown(self):
        """The board (tries, points)."""
        return self._steps[-1][2:]

    def share(self):
        """The share that is shown, None ahead of all events."""
        tries, points = self.shown()
        return share_of(points, tries) if tries > 0 else None

    def standing(self):
        """The standing."""
        return self._steps[-1][1]

    def past(self):
        """The run so far."""
        return tuple([step[0] for step in self._steps[1:]])

    def can_come(self):
        """The ascending list of the events that can come."""
        here = self.standing()
        return [number for number, event in enumerate(self._machine.events) if event[0] == here]

    def leapt(self, share, way):
        """How many events so far leapt over a share."""
        return len(leaps(self._machine, share, way, self.past()))

    def met(self, share):
        """Behind how many events so far a share was shown."""
        return len(meets(self._machine, share, self.past()))

    def can_leap(self, share, way):
        """Whether some event that can come leaps."""
        check_share(share)
        check_way(way)
        sign = 1 if way == "up" else -1
        tries, points = self.shown()
        ahead = sign * lift_of(share, tries, points)
        lifts = [lift_of(share, event[2], event[3]) for event in self._machine.events if event[0] == self.standing()]
        return any([ahead < 0 < ahead + sign * lift for lift in lifts])

    def back(self):
        """Take back the last event that is not taken back."""
        if len(self._steps) == 1:
            raise NothingDone()
        self._steps.pop()

    def copy(self):
        """Another board that goes on apart."""
        board = Board(self._machine)
        board._steps = list(self._steps)
        return board

    def trying(self, action):
        """What a function returns that is called with the board; then all is as it was."""
        steps = self._steps
        self._steps = list(steps)
        try:
            return action(self)
        finally:
            self._steps = steps
