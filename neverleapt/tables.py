"""Tables: a lot of values for each standing, and whether they show that nothing leaps."""

from neverleapt.checks import check_share, check_way
from neverleapt.comings import coming
from neverleapt.kinds import lift_of
from neverleapt.lots import Lot, is_in, moved, nearest_lacking, next_above, next_below


def values(machine, share):
    """The tuple with the lot of all values that come at each standing."""
    check_share(share)
    return tuple(coming(machine, share))


def is_closed(machine, share, thing):
    """Whether a thing is a table that holds 0 at standing 0, and that no event leaves."""
    check_share(share)
    return _open_fault(machine, share, thing) is None


def is_table(machine, share, way, thing):
    """Whether a thing is a closed table without a leap."""
    return table_fault(machine, share, way, thing) is None


def table_fault(machine, share, way, thing):
    """The first thing for which a thing is no closed table without a leap, None if it is one."""
    check_share(share)
    check_way(way)
    fault = _open_fault(machine, share, thing)
    return _leap_fault(machine, share, way, thing) if fault is None else fault


def _open_fault(machine, share, thing):
    """The first thing for which a thing is no closed table, None if it is one."""
    if not isinstance(thing, tuple) or len(thing) != machine.standings:
        return ("form",)
    if not all([isinstance(lot, Lot) for lot in thing]):
        return ("form",)
    if not is_in(thing[0], 0):
        return ("begin",)
    for number, (before, after, tries, points) in enumerate(machine.events):
        ahead = moved(thing[after], -lift_of(share, tries, points))
        start = nearest_lacking(thing[before], ahead)
        if start is not None:
            return ("event", number, start)
    return None


def _leap_fault(machine, share, way, table):
    for number, (before, after, tries, points) in enumerate(machine.events):
        start = leap_start(table[before], lift_of(share, tries, points), way)
        if start is not None:
            return ("leap", number, start)
    return None


def leap_start(lot, lift, way):
    """The number of a lot, nearest to 0, from which a lift leaps, None if there is none."""
    if way == "up":
        start = next_below(lot, 0)
        return start if start is not None and start + lift > 0 else None
    start = next_above(lot, 0)
    return start if start is not None and start + lift < 0 else None
