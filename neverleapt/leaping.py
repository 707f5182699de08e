"""Runs that leap: the shortest, those behind so many tries, late ones, and where a run leaps."""

from neverleapt.bitrows import cut
from neverleapt.checks import check_share, check_way
from neverleapt.errors import NoNumber, NoRun, NotBalanced, TooMany
from neverleapt.grids import Grid
from neverleapt.kinds import is_between, lift_of
from neverleapt.laterow import even_row
from neverleapt.leapsearch import Search, upward
from neverleapt.machines import boards, is_run
from neverleapt.nets import grain_of
from neverleapt.rings import is_balanced
from neverleapt.ringsearch import total
from neverleapt.verdicts import leaping_events, never

MOST_STATES = 100000
MOST_TRIES = 300
LATEST = 1000


def leap(machine, share, way):
    """The least of the shortest runs whose last event leaps, None if there is none."""
    if never(machine, share, way):
        return None
    machine, share = upward(machine, share, way)
    return _next_leap(machine, share, (0, 0))


def _next_leap(machine, share, state):
    """The least of the shortest rows from a standing and value on whose last event leaps up, some doing so."""
    search = Search(machine, share, state, MOST_STATES, True)
    if not search.leaps:
        raise TooMany(MOST_STATES)
    return search.row_with(search.leaps[0])


def is_leap(machine, share, way, thing):
    """Whether a thing is a run whose last event leaps."""
    check_share(share)
    check_way(way)
    return is_run(machine, thing) and len(thing) - 1 in leaps(machine, share, way, thing)


def leaps(machine, share, way, run):
    """The places of a run at which its event leaps."""
    check_share(share)
    check_way(way)
    sign = 1 if way == "up" else -1
    told = [0] + [sign * number for number in _values_behind(machine, share, run)]
    return [place for place in range(len(run)) if told[place] < 0 and told[place + 1] > 0]


def meets(machine, share, run):
    """The places of a run behind whose events the share is shown."""
    check_share(share)
    return [place for place, number in enumerate(_values_behind(machine, share, run)) if number == 0]


def _values_behind(machine, share, run):
    """The values of a run behind each of its events."""
    if not is_run(machine, run):
        raise NoRun()
    return [lift_of(share, tries, points) for tries, points in boards(machine, run)]


def leap_behind(machine, share, way, tries):
    """The least of the runs whose last event leaps, with just so many tries ahead of it, or None."""
    check_share(share)
    check_way(way)
    if not is_between(tries, 1, MOST_TRIES):
        raise NoNumber()
    machine, share = upward(machine, share, way)
    grid = Grid(machine, grain_of(machine), (0,), tries, None, 0)
    good = grid.leading_to(_leaping_from(grid, share, tries))
    return _least_run(grid, share, good) if 0 in good[0] else None


def _leaping_from(grid, share, tries):
    """What of the last layer some event leaps up from."""
    found = {}
    for standing, (least, bits) in grid.layers[tries].items():
        lifts = [lift_of(share, event[2], event[3]) for event in grid.machine.events if event[0] == standing]
        # The value is below 0, and above the greatest lift with the other sign.
        first = (share[0] * tries - max(lifts, default=0)) // share[1] + 1
        last = (share[0] * tries - 1) // share[1]
        skipped = max((first - least + grid.grain - 1) // grid.grain, 0)
        many = min((last - least) // grid.grain + 1, bits.bit_length())
        if skipped < many:
            row = cut(bits, many) >> skipped << skipped
            if row:
                found[standing] = (least, row)
    return found


def _least_run(grid, share, good):
    """The least run through layers of what leads to a leap up, and the last event, which leaps."""
    run = []
    tries, standing, points = 0, 0, 0
    while tries < len(good) - 1:
        number = _next_event(grid, good, tries, standing, points)
        run.append(number)
        _, standing, spent, gained = grid.machine.events[number]
        tries += spent
        points += gained
    for number, event in enumerate(grid.machine.events):
        if event[0] == standing and lift_of(share, tries + event[2], points + event[3]) > 0:
            return tuple(run) + (number,)
    return None


def _next_event(grid, good, tries, standing, points):
    """The least event that can come next on the way through such layers."""
    for number, (before, after, spent, gained) in enumerate(grid.machine.events):
        if before == standing and tries + spent < len(good):
            if grid.place_in(good[tries + spent], after, points + gained) is not None:
                return number
    return None


def late_leap(machine, share, way, tries):
    """A run whose last event leaps, with so many tries or more ahead of it, None if no run leaps."""
    check_share(share)
    check_way(way)
    if not is_balanced(machine, share):
        raise NotBalanced()
    if not is_between(tries, 0, LATEST):
        raise NoNumber()
    machine, share = upward(machine, share, way)
    if not leaping_events(machine, share, True):
        return None
    first = _next_leap(machine, share, (0, 0))
    try:
        return _leap_again(machine, share, tries, first)
    except TooMany:
        # What leaps once can be put off by what leads back to the same standing and value.
        return even_row(machine, share, tries) + first


def _leap_again(machine, share, tries, row):
    """A row whose last event leaps up, and further ones like it behind it, until there are tries enough."""
    run = list(row)
    spent, points = total(machine, row)
    rows = {}
    while spent - machine.events[run[-1]][2] < tries:
        state = (machine.events[run[-1]][1], lift_of(share, spent, points))
        if state not in rows:
            rows[state] = _next_leap(machine, share, state)
        row = rows[state]
        more, gained = total(machine, row)
        run.extend(row)
        spent += more
        points += gained
    return tuple(run)


def widest(machine, share, way):
    """The greatest lift with which an event leaps in some run, and the least such event, None if no run leaps."""
    check_share(share)
    check_way(way)
    machine, share = upward(machine, share, way)
    found = leaping_events(machine, share, False)
    if not found:
        return None
    most = max([lift for lift, _ in found])
    return (most, min([number for lift, number in found if lift == most]))
