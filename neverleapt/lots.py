"""Lots of integers: told by members between two borders, and by rests that come again beyond them."""

from math import gcd, lcm

from neverleapt.bitrows import bits_of, highest, lowest, places_of, striped
from neverleapt.errors import BadLot, NoNumber, NoNumbers, TooMany
from neverleapt.kinds import is_ascending, is_between, is_whole
from neverleapt.lotforms import least_form

FARTHEST = 100000
GREATEST_STEP = 4000


class Lot:
    """Integers: those below low and those from high on by their rests, those between them one by one."""

    def __init__(self, low, high, members, step, below, above):
        part = _wrong_part(low, high, members, step, below, above)
        if part is not None:
            raise BadLot(part)
        form = least_form(low, high, members, step, below, above)
        self.low, self.high, self.members, self.step, self.below, self.above = form

    def __eq__(self, other):
        return (
            isinstance(other, Lot)
            and self.low == other.low and self.high == other.high and self.members == other.members
            and self.step == other.step and self.below == other.below and self.above == other.above
        )


def _wrong_part(low, high, members, step, below, above):
    """The name of the first part that is not as it must be, None if all are."""
    if not is_whole(low):
        return "low"
    if not is_between(high, low, low + FARTHEST):
        return "high"
    if not is_ascending(members, low, high - 1):
        return "members"
    if not is_between(step, 1, GREATEST_STEP):
        return "step"
    if not is_ascending(below, 0, step - 1):
        return "below"
    if not is_ascending(above, 0, step - 1):
        return "above"
    return None


def formed(low, high, members, step, below, above):
    """A lot of any size: only those that callers construct are bounded."""
    lot = Lot(0, 0, (), 1, (), ())
    form = least_form(low, high, members, step, below, above)
    lot.low, lot.high, lot.members, lot.step, lot.below, lot.above = form
    return lot


def is_in(lot, thing):
    """Whether a thing is an integer in the lot."""
    if not is_whole(thing):
        return False
    if thing < lot.low:
        return thing % lot.step in lot.below
    if thing < lot.high:
        return thing in lot.members
    return thing % lot.step in lot.above


def lot_of(numbers):
    """The lot of these integers."""
    if not isinstance(numbers, (list, tuple)) or not all([is_whole(number) for number in numbers]):
        raise NoNumbers()
    if not numbers:
        return formed(0, 0, (), 1, (), ())
    low, last = min(numbers), max(numbers)
    if last - low > FARTHEST:
        raise NoNumbers()
    return formed(low, last + 1, sorted(set(numbers)), 1, (), ())


def every(step, rest):
    """The lot of all integers with this rest."""
    if not is_between(step, 1, GREATEST_STEP) or not is_between(rest, 0, step - 1):
        raise NoNumber()
    return formed(0, 0, (), step, (rest,), (rest,))


def joined(lot, second):
    """The lot of the integers in one of both or the other."""
    _check_sizes(lot, second)
    return merged(lot, second, False)


def common(lot, second):
    """The lot of the integers in both."""
    _check_sizes(lot, second)
    return merged(lot, second, True)


def _check_sizes(lot, second):
    if lcm(lot.step, second.step) > GREATEST_STEP:
        raise TooMany(GREATEST_STEP)
    if max(lot.high, second.high) - min(lot.low, second.low) > FARTHEST:
        raise TooMany(FARTHEST)


def merged(lot, second, both):
    """The lot of the integers in both, or in one or the other, of whatever size."""
    low, high = borders(lot, second)
    step = lcm(lot.step, second.step)
    under = _mixed(_rests(lot.below, lot.step, step), _rests(second.below, second.step, step), both)
    middle = _mixed(row_of(lot, low, high - low), row_of(second, low, high - low), both)
    over = _mixed(_rests(lot.above, lot.step, step), _rests(second.above, second.step, step), both)
    return formed(low, high, [low + place for place in places_of(middle)], step, places_of(under), places_of(over))


def borders(lot, second):
    """The lesser low and the greater high of two lots, but for one that needs no borders."""
    if lot.low == lot.high and lot.below == lot.above:
        return (second.low, second.high)
    if second.low == second.high and second.below == second.above:
        return (lot.low, lot.high)
    return (min(lot.low, second.low), max(lot.high, second.high))


def _rests(rests, step, longer):
    """The row of all rests by a longer step that are such rests by a shorter one."""
    return striped(bits_of(rests, step), step, 0, longer)


def tail_rests(rests, step, other):
    """The rests by the other step of all integers that have such rests by the one, each perhaps several times."""
    shared = gcd(step, other)
    return [(rest + shared * turn) % other for rest in rests for turn in range(other // shared)]


def rests_by(lot, step):
    """The rests by a step of all integers in a lot, each perhaps several times."""
    members = [member % step for member in lot.members]
    return members + tail_rests(lot.below, lot.step, step) + tail_rests(lot.above, lot.step, step)


def _mixed(row, second, both):
    return row & second if both else row | second


def row_of(lot, start, many):
    """The row of so many integers from start on, those in the lot set."""
    under = min(max(lot.low - start, 0), many)
    upper = min(max(lot.high - start, 0), many)
    first, last = start + under, start + upper
    inside = [member - first for member in lot.members if first <= member < last]
    row = striped(bits_of(lot.below, lot.step), lot.step, start, under)
    row |= bits_of(inside, upper - under) << under
    return row | (striped(bits_of(lot.above, lot.step), lot.step, last, many - upper) << upper)


def lacking(lot):
    """The lot of all integers that are not in a lot."""
    inside = {member: True for member in lot.members}
    members = [number for number in range(lot.low, lot.high) if number not in inside]
    return formed(lot.low, lot.high, members, lot.step, _others(lot.below, lot.step), _others(lot.above, lot.step))


def _others(rests, step):
    inside = {rest: True for rest in rests}
    return [rest for rest in range(step) if rest not in inside]


def moved(lot, by):
    """The lot of all integers of a lot, each so much greater."""
    if not is_whole(by):
        raise NoNumber()
    members = [member + by for member in lot.members]
    below = sorted([(rest + by) % lot.step for rest in lot.below])
    above = sorted([(rest + by) % lot.step for rest in lot.above])
    return formed(lot.low + by, lot.high + by, members, lot.step, below, above)


def turned(lot):
    """The lot of all integers of a lot, each with the other sign."""
    members = [-member for member in reversed(lot.members)]
    below = sorted([-rest % lot.step for rest in lot.above])
    above = sorted([-rest % lot.step for rest in lot.below])
    return formed(1 - lot.high, 1 - lot.low, members, lot.step, below, above)


def is_part(lot, second):
    """Whether all integers in the first lot are in the second."""
    return nearest_lacking(lot, second) is None


def nearest_lacking(lot, second):
    """The integer nearest to 0 in the first lot that is not in the second, of two the one above 0; or None."""
    places = sorted([0, lot.low, lot.high, second.low, second.high])
    round_step = lcm(lot.step, second.step)
    windows = [(places[0] - round_step, places[0]), (places[-1], places[-1] + round_step)]
    for place in range(4):
        start, stop = places[place], places[place + 1]
        if not lot.low <= start < lot.high and not second.low <= start < second.high:
            # Beyond the members the same comes again: what lies nearest to 0 tells it.
            if start < 0:
                start = max(start, stop - round_step)
            else:
                stop = min(stop, start + round_step)
        windows.append((start, stop))
    found = [_lacking_between(lot, second, start, stop) for start, stop in windows]
    nearest = min([(abs(number), -number) for number in found if number is not None], default=None)
    return None if nearest is None else -nearest[1]


def _lacking_between(lot, second, start, stop):
    """The one nearest to 0 of some integers that are all from 0 on or all below, None if none is lacking."""
    row = row_of(lot, start, stop - start)
    row ^= row & row_of(second, start, stop - start)
    if not row:
        return None
    return start + (highest(row) if start < 0 else lowest(row))


def least_in(lot):
    """The least integer in a lot, None if there is none."""
    if lot.below:
        return None
    return _first_from(lot, lot.low)


def greatest_in(lot):
    """The greatest integer in a lot, None if there is none."""
    if lot.above:
        return None
    return _last_until(lot, lot.high - 1)


def next_below(lot, number):
    """The greatest integer in a lot below a number, None if there is none."""
    if not is_whole(number):
        raise NoNumber()
    return _last_until(lot, number - 1)


def next_above(lot, number):
    """The least integer in a lot above a number, None if there is none."""
    if not is_whole(number):
        raise NoNumber()
    return _first_from(lot, number + 1)


def _first_from(lot, start):
    if start < lot.low and lot.below:
        number = start + min([(rest - start) % lot.step for rest in lot.below])
        if number < lot.low:
            return number
    inside = [member for member in lot.members if member >= start]
    if inside:
        return inside[0]
    if not lot.above:
        return None
    start = max(start, lot.high)
    return start + min([(rest - start) % lot.step for rest in lot.above])


def _last_until(lot, stop):
    if stop >= lot.high and lot.above:
        number = stop - min([(stop - rest) % lot.step for rest in lot.above])
        if number >= lot.high:
            return number
    inside = [member for member in lot.members if member <= stop]
    if inside:
        return inside[-1]
    if not lot.below:
        return None
    stop = min(stop, lot.low - 1)
    return stop - min([(stop - rest) % lot.step for rest in lot.below])


def many_in(lot, one, other):
    """How many integers from one on below the other are in a lot."""
    if not is_whole(one) or not is_whole(other):
        raise NoNumber()
    if other <= one:
        return 0
    return _tally(lot, other) - _tally(lot, one)


def _tally(lot, number):
    """How many integers of a lot are below a number, less the same for another number."""
    upper = _tally_rests(lot.above, lot.step, max(number, lot.high)) - _tally_rests(lot.above, lot.step, lot.high)
    inside = len([member for member in lot.members if member < number])
    return _tally_rests(lot.below, lot.step, min(number, lot.low)) + inside + upper


def _tally_rests(rests, step, number):
    """How many integers from 0 on below a number have such a rest, or, below 0, those from there on with a minus."""
    rounds, rest = divmod(number, step)
    return rounds * len(rests) + len([one for one in rests if one < rest])
