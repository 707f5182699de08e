"""What runs show between two boards."""

from neverleapt.checks import check_share
from neverleapt.errors import NoBoard, NoFlag, TooMany
from neverleapt.kinds import by_size, is_pair
from neverleapt.meetings import Meetings
from neverleapt.passages import Passage

MOST_TRIES = 300


def between(machine, first, last, share):
    """Whether the runs from a first board to a last one show a share between: surely, never, open, or none."""
    counts = often(machine, first, last, share)
    if counts is None:
        return "none"
    least, greatest = counts
    if least > 0:
        return "surely"
    return "open" if greatest > 0 else "never"


def often(machine, first, last, share):
    """How often at the least and at the most such a run shows the share between, None if there is no such run."""
    _check_boards(first, last)
    check_share(share)
    _check_tries(last)
    meetings = Meetings(machine, first, last, share)
    least = meetings.showings(False)
    return None if least is None else (least[0], meetings.showings(True)[0])


def often_run(machine, first, last, share, most):
    """Such a run that shows the share the least number of times, or, if most, the greatest; None if there is none."""
    _check_boards(first, last)
    check_share(share)
    if not isinstance(most, bool):
        raise NoFlag()
    _check_tries(last)
    meetings = Meetings(machine, first, last, share)
    found = meetings.showings(most)
    return None if found is None else meetings.run_through(found[1])


def _check_boards(first, last):
    if not is_pair(first) or first[0] < 0 or (first[0] == 0 and first[1] != 0):
        raise NoBoard()
    if not is_pair(last) or last[0] <= first[0]:
        raise NoBoard()


def _check_tries(last):
    if last[0] > MOST_TRIES:
        raise TooMany(MOST_TRIES)


def surely_met(machine, first, last):
    """The ascending list of all shares that each such run shows between."""
    _check_boards(first, last)
    _check_tries(last)
    passage = Passage(machine, first, last)
    # What a run that keeps high and one that keeps low both show is little, and each run found tells of all left.
    high = passage.shown_without(None, False)
    if high is None:
        return []
    low = passage.shown_without(None, True)
    left = [share for share in by_size(list(high)) if share in low]
    found = []
    while left:
        shown = passage.shown_without(left[0], False)
        if shown is None:
            found.append(left[0])
            left = left[1:]
        else:
            left = [share for share in left if share in shown]
    return found
