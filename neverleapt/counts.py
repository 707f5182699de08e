"""How many runs there are of so many events, how many of them leap or show a share, and their numbers."""

from neverleapt.checks import check_share, check_way
from neverleapt.errors import NoNumber, NoRun, TooLong
from neverleapt.kinds import is_between
from neverleapt.machines import is_run
from neverleapt.tallies import leaping_sum, meeting_sum

MOST_EVENTS = 100


def many_runs(machine, many):
    """How many runs of so many events there are."""
    _check_many(many)
    return _rows_onward(machine, many)[many][0]


def many_leaping(machine, share, way, many):
    """In how many of the runs of so many events some event leaps."""
    check_share(share)
    check_way(way)
    _check_many(many)
    return leaping_sum(machine, share, way, [1] * len(machine.events), _rows_onward(machine, many))


def many_meeting(machine, share, many):
    """How many of the runs of so many events show the share."""
    check_share(share)
    _check_many(many)
    return meeting_sum(machine, share, [1] * len(machine.events), _rows_onward(machine, many))


def _check_many(many):
    if not is_between(many, 0, MOST_EVENTS):
        raise NoNumber()


def _rows_onward(machine, most):
    """For each number of events up to most a list with how many rows of so many lead from each standing."""
    found = [[1] * machine.standings]
    for _ in range(most):
        longer = [0] * machine.standings
        for before, after, _, _ in machine.events:
            longer[before] += found[-1][after]
        found.append(longer)
    return found


def run_at(machine, many, number):
    """The run of so many events that has a number among all of them, ascending."""
    _check_many(many)
    onward = _rows_onward(machine, many)
    if not is_between(number, 0, onward[many][0] - 1):
        raise NoNumber()
    run = []
    standing, rest = 0, number
    for left in reversed(range(many)):
        event, rest = _event_at(machine, standing, rest, onward[left])
        run.append(event)
        standing = machine.events[event][1]
    return tuple(run)


def _event_at(machine, standing, number, onward):
    """The first event of the row with a number among those from a standing, and its number among those with it."""
    for event, (before, after, _, _) in enumerate(machine.events):
        if before == standing:
            if number < onward[after]:
                return event, number
            number -= onward[after]
    return None


def run_number(machine, run):
    """The number of a run among all runs of as many events, ascending."""
    if not is_run(machine, run):
        raise NoRun()
    if len(run) > MOST_EVENTS:
        raise TooLong(MOST_EVENTS)
    onward = _rows_onward(machine, len(run))
    number = 0
    for place, event in enumerate(run):
        for before, after, _, _ in machine.events[:event]:
            if before == machine.events[event][0]:
                number += onward[len(run) - place - 1][after]
    return number
