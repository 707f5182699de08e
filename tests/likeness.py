"""A machine, a share and a way, and others of which the document says that all is alike with them."""

import random
from fractions import Fraction

from neverleapt.changes import mirrored, scaled, shifted
from neverleapt.machines import Machine

OTHER_WAY = {"up": "down", "down": "up"}


def pair(fraction):
    """The share of a fraction."""
    return (fraction.numerator, fraction.denominator)


def reordered(machine, seed):
    """The machine with its events in another order, and the new number of each."""
    order = list(range(len(machine.events)))
    random.Random(seed).shuffle(order)
    names = [order.index(number) for number in range(len(order))]
    return Machine(machine.standings, tuple(machine.events[number] for number in order)), names


def likenesses(machine, share, way, seed=0):
    """Tuples (name, machine, share, way, names of the events) for which all is alike."""
    source = random.Random(seed)
    by, times = source.randint(-1000, 1000), source.randint(1, 1000)
    same = list(range(len(machine.events)))
    other, names = reordered(machine, seed)
    top, bottom = share
    return [
        ("mirrored", mirrored(machine), (-top, bottom), OTHER_WAY[way], same),
        ("shifted", shifted(machine, by), (top + by * bottom, bottom), way, same),
        ("scaled", scaled(machine, times), pair(Fraction(times * top, bottom)), way, same),
        ("reordered", other, share, way, names),
    ]


def changed_share(name, machine, share, seed=0):
    """The share that is shown in the place of another one, the machine being changed so."""
    for told, _, changed, _, _ in likenesses(machine, share, "up", seed):
        if told == name:
            return changed
    return None
