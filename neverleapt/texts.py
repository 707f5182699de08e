"""Shares, machines, lots and tables as texts."""

from neverleapt.checks import check_share
from neverleapt.errors import NoTable
from neverleapt.lots import Lot
from neverleapt.numerals import number_text


def share_text(share):
    """The text of a share."""
    check_share(share)
    top = number_text(share[0])
    return top if share[1] == 1 else f"{top}/{number_text(share[1])}"


def machine_text(machine):
    """The text of a machine: a line with its standings, then one for each event."""
    lines = [f"machine {number_text(machine.standings)}\n"]
    for event in machine.events:
        numbers = " ".join([number_text(number) for number in event])
        lines.append(f"event {numbers}\n")
    return "".join(lines)


def lot_text(lot):
    """The text of a lot, one line."""
    low, high, step = number_text(lot.low), number_text(lot.high), number_text(lot.step)
    below, members, above = _several(lot.below), _several(lot.members), _several(lot.above)
    return f"step {step} low {low} high {high} below {below} members {members} above {above}\n"


def _several(numbers):
    return ",".join([number_text(number) for number in numbers]) if numbers else "-"


def table_text(table):
    """The text of a tuple of lots: a line with their number, then one for each."""
    if not isinstance(table, tuple) or not all([isinstance(lot, Lot) for lot in table]):
        raise NoTable()
    return f"table {len(table)}\n" + "".join([lot_text(lot) for lot in table])
