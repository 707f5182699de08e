"""Machines, and the runs, boards and shares of theirs."""

from neverleapt.errors import BadMachine, NoRun
from neverleapt.kinds import is_between, share_of

MOST_STANDINGS = 12
MOST_EVENTS = 30
MOST_TRIES = 40
MOST_POINTS = 400


class Machine:
    """Standings, and the events that lead from one to another, each with tries and points."""

    def __init__(self, standings, events):
        if not is_between(standings, 1, MOST_STANDINGS):
            raise BadMachine("standings")
        if not isinstance(events, tuple) or len(events) > MOST_EVENTS:
            raise BadMachine("events")
        for number, thing in enumerate(events):
            if not _is_event(thing, standings):
                raise BadMachine(number)
        self.standings = standings
        self.events = events

    def __eq__(self, other):
        return isinstance(other, Machine) and self.standings == other.standings and self.events == other.events


def made(standings, events):
    """A machine of any size: only those that callers construct are bounded."""
    machine = Machine(1, ())
    machine.standings = standings
    machine.events = events
    return machine


def _is_event(thing, standings):
    if not isinstance(thing, tuple) or len(thing) != 4:
        return False
    before, after, tries, points = thing
    last = standings - 1
    return is_between(before, 0, last) and is_between(after, 0, last) and are_counts(tries, points)


def are_counts(tries, points):
    """Whether these can be the tries and the points of an event."""
    return is_between(tries, 1, MOST_TRIES) and is_between(points, -MOST_POINTS, MOST_POINTS)


def has_event(machine, thing):
    """Whether a thing is the number of an event of the machine."""
    return is_between(thing, 0, len(machine.events) - 1)


def is_run(machine, thing):
    """Whether a thing is a run of the machine."""
    if not isinstance(thing, tuple):
        return False
    standing = 0
    for number in thing:
        if not has_event(machine, number) or machine.events[number][0] != standing:
            return False
        standing = machine.events[number][1]
    return True


def ends_at(machine, run):
    """The standing to which a run leads."""
    if not is_run(machine, run):
        raise NoRun()
    if not run:
        return 0
    return machine.events[run[-1]][1]


def boards(machine, run):
    """The boards (tries, points) behind each event of a run."""
    if not is_run(machine, run):
        raise NoRun()
    all_tries = 0
    all_points = 0
    found = []
    for number in run:
        all_tries += machine.events[number][2]
        all_points += machine.events[number][3]
        found.append((all_tries, all_points))
    return found


def shares(machine, run):
    """The shares points / tries behind each event of a run."""
    return [share_of(points, tries) for tries, points in boards(machine, run)]
