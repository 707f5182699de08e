"""The least form of a lot of integers, of all the ways in which it can be told."""

from math import lcm

from neverleapt.bitrows import bits_of, cut, highest, least_step, lowest, striped


def least_form(low, high, members, step, below, above):
    """The six parts with which the same lot is told in its least form."""
    under = bits_of(below, step)
    over = bits_of(above, step)
    least = lcm(least_step(under, step), least_step(over, step))
    under, over = cut(under, least), cut(over, least)
    rests = (
        tuple([rest for rest in below if rest < least]),
        tuple([rest for rest in above if rest < least]),
    )
    # One step below low is enough: if all of it is as above high, so is all further down.
    start = low - least
    row = bits_of([member - low for member in members], high - low) << least
    row |= striped(under, least, start, least)
    unlike = row ^ striped(over, least, start, high - start)
    if not unlike:
        return (0, 0, (), least) + rests
    top = start + highest(unlike) + 1
    if top <= low:
        return (top, top, (), least) + rests
    unlike = cut(row ^ striped(under, least, start, high - start), top - start)
    bottom = start + lowest(unlike) if unlike else top
    inside = tuple([member for member in members if bottom <= member < top])
    return (bottom, top, inside, least) + rests
