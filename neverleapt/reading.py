"""Texts of shares, machines, lots and tables read back."""

from neverleapt.errors import BadText
from neverleapt.kinds import is_share
from neverleapt.lots import Lot
from neverleapt.machines import Machine
from neverleapt.numerals import read_number

# What can stand in a line in the place of a word: numbers from 0 on, integers, and several of these.
COUNT = 0
NUMBER = 1
COUNTS = 2
NUMBERS = 3
MACHINE_LINE = ("machine", COUNT)
EVENT_LINE = ("event", COUNT, COUNT, COUNT, NUMBER)
TABLE_LINE = ("table", COUNT)
LOT_LINE = ("step", COUNT, "low", NUMBER, "high", NUMBER, "below", COUNTS, "members", NUMBERS, "above", COUNTS)


def read_share(text):
    """The share of a text."""
    if not isinstance(text, str):
        raise BadText(0)
    top, bar, bottom = text.partition("/")
    share = (read_number(top, True), read_number(bottom, False) if bar else 1)
    # A bottom of 1 is never told.
    if not is_share(share) or bottom == "1":
        raise BadText(1)
    return share


def read_machine(text):
    """The machine of a text."""
    lines, rest = _lines(text)
    told = [_read_line(line, place, EVENT_LINE if place else MACHINE_LINE) for place, line in enumerate(lines)]
    _check_end(lines, rest, 1)
    return Machine(told[0][0], tuple([tuple(event) for event in told[1:]]))


def read_lot(text):
    """The lot of a text."""
    lines, rest = _lines(text)
    told = [_read_line(line, place, LOT_LINE) for place, line in enumerate(lines[:1])]
    _check_many(lines, 1)
    _check_end(lines, rest, 1)
    return _lot(told[0])


def read_table(text):
    """The tuple of the lots of a text."""
    lines, rest = _lines(text)
    many = _read_line(lines[0], 0, TABLE_LINE)[0] if lines else 0
    told = [_read_line(line, place, LOT_LINE) for place, line in enumerate(lines[:many + 1]) if place > 0]
    _check_many(lines, many + 1)
    _check_end(lines, rest, many + 1)
    return tuple([_lot(parts) for parts in told])


def _lines(text):
    """The lines of a text that line feeds close, and what stands behind the last line feed."""
    if not isinstance(text, str):
        raise BadText(0)
    *lines, rest = text.split("\n")
    return lines, rest


def _check_many(lines, most):
    if len(lines) > most:
        raise BadText(most + 1)


def _check_end(lines, rest, least):
    if rest or len(lines) < least:
        raise BadText(len(lines) + 1)


def _read_line(line, place, form):
    """The list of what stands in a line in the places that its form leaves open."""
    words = line.split(" ")
    if len(words) != len(form):
        raise BadText(place + 1)
    told = []
    for word, part in zip(words, form):
        if isinstance(part, str):
            fits = word == part
        else:
            thing = _read_word(word, part)
            fits = thing is not None
            told.append(thing)
        if not fits:
            raise BadText(place + 1)
    return told


def _read_word(word, kind):
    """What a word tells, None if it tells nothing of this kind."""
    signed = kind == NUMBER or kind == NUMBERS
    if kind == COUNT or kind == NUMBER:
        return read_number(word, signed)
    if word == "-":
        return ()
    numbers = tuple([read_number(part, signed) for part in word.split(",")])
    return None if None in numbers else numbers


def _lot(parts):
    step, low, high, below, members, above = parts
    return Lot(low, high, members, step, below, above)
