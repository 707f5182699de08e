"""Logs: shares that were shown one behind another, and the runs that can have shown them."""

from neverleapt.checks import check_share, check_way
from neverleapt.errors import NoLog, TooMany
from neverleapt.kinds import by_size, is_below, is_share, lift_of, share_of

LONGEST_LOG = 40
MOST_TRIPLES = 5000


def fitting(machine, log):
    """The ascending list of the triples (standing, tries, points) that runs come to which fit a log."""
    _check_log(log)
    return _fitting_all(machine, log)[-1]


def first_wrong(machine, log):
    """The place of the first share of a log up to which no run fits, None if some run fits all of it."""
    _check_log(log)
    for place, triples in enumerate(_fitting_all(machine, log)):
        if not triples:
            return place - 1
    return None


def next_shares(machine, log):
    """The ascending list of the shares that can be shown next behind a log."""
    _check_log(log)
    steps = _steps(machine)
    return by_size(sorted({
        share_of(points + gained, tries + spent)
        for standing, tries, points in _fitting_all(machine, log)[-1]
        for _, spent, gained in steps[standing]
    }))


def surely_leapt(machine, log, share, way):
    """Whether some event leaps over the share in each run that fits a log, and some run does."""
    _check_log(log)
    check_share(share)
    check_way(way)
    return len(_fitting_all(machine, log)[-1]) > 0 and _is_passed(log, share, way)


def _check_log(log):
    if not isinstance(log, (list, tuple)) or len(log) > LONGEST_LOG:
        raise NoLog()
    if not all([is_share(thing) for thing in log]):
        raise NoLog()


def _is_passed(log, share, way):
    """Whether a log goes from the one side of a share to the other one without showing it."""
    for ahead, behind in zip(log, log[1:]):
        low, high = (ahead, behind) if way == "up" else (behind, ahead)
        if is_below(low, share) and is_below(share, high):
            return True
    return False


def _fitting_all(machine, log):
    """The list, for each beginning of a log from the empty one on, of what fitting gives for it."""
    steps = _steps(machine)
    found = [[(0, 0, 0)]]
    for share in log:
        triples = sorted({
            (after, tries + spent, points + gained)
            for standing, tries, points in found[-1]
            for after, spent, gained in steps[standing]
            if lift_of(share, tries + spent, points + gained) == 0
        })
        if len(triples) > MOST_TRIPLES:
            raise TooMany(MOST_TRIPLES)
        found.append(triples)
    return found


def _steps(machine):
    """For each standing the list of the triples (after, tries, points) of the events that lead from it."""
    steps = [[] for _ in range(machine.standings)]
    for before, after, tries, points in machine.events:
        steps[before].append((after, tries, points))
    return steps
