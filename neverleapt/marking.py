"""Marks: shares that are shown with so many places, and when a mark is leapt for the last time."""

from neverleapt.bitrows import cut, lowest
from neverleapt.checks import check_share, check_way
from neverleapt.errors import NoHow, NoMark, NoPlaces, NoRun, TooMany
from neverleapt.grids import Grid
from neverleapt.kinds import is_between, is_whole
from neverleapt.machines import boards, is_run
from neverleapt.nets import grain_of

UNITS = (1, 10, 100, 1000, 10000, 100000, 1000000)
HOWS = ("down", "up", "near", "even")
MOST_TRIES = 300


def mark(share, places, how):
    """The mark as which a share is shown."""
    check_share(share)
    _check_rounding(places, how)
    return _mark(share[0], share[1], places, how)


def marks(machine, run, places, how):
    """The list of the marks of all shares of a run."""
    if not is_run(machine, run):
        raise NoRun()
    _check_rounding(places, how)
    return [_mark(points, tries, places, how) for tries, points in boards(machine, run)]


def _check_rounding(places, how):
    if not is_between(places, 0, len(UNITS) - 1):
        raise NoPlaces()
    if not isinstance(how, str) or how not in HOWS:
        raise NoHow()


def _mark(points, tries, places, how):
    """The mark of points / tries, in lowest terms or not."""
    units = points * UNITS[places]
    if how == "down":
        return units // tries
    if how == "up":
        return -(-units // tries)
    whole, rest = divmod(units, tries)
    if 2 * rest == tries and how == "even":
        return whole + whole % 2
    return whole + 1 if 2 * rest >= tries else whole


def last_leap(machine, places, how, told, way):
    """The greatest number of tries ahead of an event that leaps over a mark, None if none does."""
    found = _last_leap(machine, places, how, told, way)
    return None if found is None else found[0]


def last_leap_run(machine, places, how, told, way):
    """A run whose last event leaps over a mark behind so many tries, None if there is none."""
    found = _last_leap(machine, places, how, told, way)
    return None if found is None else found[1]


def _last_leap(machine, places, how, told, way):
    """The most tries ahead of a leap over a mark, and a run that leaps behind them, None if there is none."""
    _check_rounding(places, how)
    if not is_whole(told):
        raise NoMark()
    check_way(way)
    grid = Grid(machine, grain_of(machine), (0,), _most_tries(machine, places), None, 0)
    for tries in reversed(range(1, len(grid.layers))):
        for number, event in enumerate(machine.events):
            if event[0] in grid.layers[tries]:
                points = _leaping_points(grid, tries, event, (places, how, told, way))
                if points is not None:
                    row = grid.row_to(tries, event[0], points, list(range(len(machine.events))))
                    return (tries, row + (number,))
    return None


def _most_tries(machine, places):
    """The tries behind which no event leaps over a mark any more: the most tries by the range of points by tries."""
    if not machine.events:
        return 0
    most = max([event[2] for event in machine.events])
    low = high = machine.events[0]
    for event in machine.events:
        if event[3] * low[2] < low[3] * event[2]:
            low = event
        if event[3] * high[2] > high[3] * event[2]:
            high = event
    whole = most * UNITS[places] * (high[3] * low[2] - low[3] * high[2])
    if whole > MOST_TRIES * high[2] * low[2]:
        raise TooMany(MOST_TRIES)
    return whole // (high[2] * low[2])


def _leaping_points(grid, tries, event, leap):
    """Points at an event's before, behind so many tries, from which it leaps over a mark, None if there are none."""
    places, how, told, way = leap
    least, bits = grid.layers[tries][event[0]]
    ahead = (grid, least, tries, bits.bit_length())
    behind = (grid, least + event[3], tries + event[2], bits.bit_length())
    if way == "up":
        first = _many_until(behind, places, how, told)
        many = _many_until(ahead, places, how, told - 1)
    else:
        first = _many_until(ahead, places, how, told)
        many = _many_until(behind, places, how, told - 1)
    row = cut(bits, many) >> first
    return least + (first + lowest(row)) * grid.grain if row else None


def _many_until(boards_of, places, how, most):
    """How many of ascending points, so many grains apart, have marks that are at most so great."""
    grid, least, tries, length = boards_of
    low, high = 0, length
    while low < high:
        middle = (low + high) // 2
        if _mark(least + middle * grid.grain, tries, places, how) <= most:
            low = middle + 1
        else:
            high = middle
    return low
