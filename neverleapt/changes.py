"""Machines made from others: mirrored, shifted, scaled, struck, parted, bundled."""

from neverleapt.errors import NoEvent, NoEvents, NoNumber, NoPart, TooMany
from neverleapt.kinds import is_ascending, is_between, is_whole
from neverleapt.machines import has_event, made

FARTHEST = 1000
LONGEST_BUNDLE = 4
MOST_BUNDLES = 200


def mirrored(machine):
    """The machine with the points of all events turned round."""
    return made(machine.standings, tuple([
        (before, after, tries, -points)
        for before, after, tries, points in machine.events
    ]))


def shifted(machine, by):
    """The machine with so many points more for each try."""
    if not is_between(by, -FARTHEST, FARTHEST):
        raise NoNumber()
    return made(machine.standings, tuple([
        (before, after, tries, points + by * tries)
        for before, after, tries, points in machine.events
    ]))


def scaled(machine, by):
    """The machine with so many times the points."""
    if not is_between(by, 1, FARTHEST):
        raise NoNumber()
    return made(machine.standings, tuple([
        (before, after, tries, by * points)
        for before, after, tries, points in machine.events
    ]))


def struck(machine, events):
    """The machine without the events that an ascending tuple names."""
    if not is_ascending(events, 0, len(machine.events) - 1):
        raise NoEvents()
    return made(machine.standings, tuple([
        event
        for number, event in enumerate(machine.events)
        if number not in events
    ]))


def parted(machine, event, tries, points):
    """The machine with a new standing within an event, behind so many of its tries and points."""
    if not has_event(machine, event):
        raise NoEvent()
    before, after, all_tries, all_points = machine.events[event]
    if not is_between(tries, 1, all_tries - 1) or not is_whole(points):
        raise NoPart()
    new = machine.standings
    events = list(machine.events)
    events[event] = (before, new, tries, points)
    events.append((new, after, all_tries - tries, all_points - points))
    return made(new + 1, tuple(events))


def bundled(machine, many):
    """The machine whose events are rows of so many events, each once."""
    if not is_between(many, 1, LONGEST_BUNDLE):
        raise NoNumber()
    rows = [(standing, standing, 0, 0) for standing in range(machine.standings)]
    for left in reversed(range(many)):
        rows = _longer(machine, rows, left)
        # Rows between the same two standings stay unlike whatever comes behind them, and all can go on:
        # so there are at least as many whole ones.
        if _most_alike(rows) > MOST_BUNDLES:
            raise TooMany(MOST_BUNDLES)
    if len(rows) > MOST_BUNDLES:
        raise TooMany(MOST_BUNDLES)
    return made(machine.standings, tuple(rows))


def _longer(machine, rows, left):
    """The rows by one event longer behind which so many more can come, ascending, each once."""
    live = _with_rows(machine, left)
    found = set()
    for before, middle, tries, points in rows:
        for start, after, more_tries, more_points in machine.events:
            if start == middle and after in live:
                found.add((before, after, tries + more_tries, points + more_points))
    return sorted(found)


def _with_rows(machine, many):
    """A dict with the standings from which rows of so many events lead."""
    live = {standing: True for standing in range(machine.standings)}
    for _ in range(many):
        live = {event[0]: True for event in machine.events if event[1] in live}
    return live


def _most_alike(rows):
    """How many rows at the most lead from the same standing to the same one."""
    numbers = {(before, after): 0 for before, after, tries, points in rows}
    for before, after, tries, points in rows:
        numbers[(before, after)] += 1
    return max(list(numbers.values()), default=0)
