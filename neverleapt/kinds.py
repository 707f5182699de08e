"""What integers, pairs, shares and ways are, for all other files."""

from math import gcd


def is_whole(thing):
    """Whether a thing is an integer: Python counts flags among them, the document does not."""
    return isinstance(thing, int) and not isinstance(thing, bool)


def is_between(thing, low, high):
    """Whether a thing is an integer from low to high, both with them."""
    return is_whole(thing) and low <= thing <= high


def is_ascending(thing, low, high):
    """Whether a thing is an ascending tuple of integers from low to high, both with them."""
    if not isinstance(thing, tuple):
        return False
    least = low
    for number in thing:
        if not is_between(number, least, high):
            return False
        least = number + 1
    return True


def is_pair(thing):
    """Whether a thing is a tuple of two integers."""
    return isinstance(thing, tuple) and len(thing) == 2 and is_whole(thing[0]) and is_whole(thing[1])


def is_share(thing):
    """Whether a thing is a share: in lowest terms, with the bottom above 0."""
    return is_pair(thing) and thing[1] >= 1 and gcd(thing[0], thing[1]) == 1


def is_way(thing):
    """Whether a thing is a way."""
    return isinstance(thing, str) and (thing == "up" or thing == "down")


def share_of(points, tries):
    """The share points / tries, tries being above 0."""
    common = gcd(points, tries)
    return (points // common, tries // common)


def is_below(share, other):
    """Whether the one share is, as a fraction, below the other."""
    return share[0] * other[1] < other[0] * share[1]


def lift_of(share, tries, points):
    """How far so many tries and points lift the value for a share."""
    return share[1] * points - share[0] * tries


def by_size(shares):
    """The list of these shares ascending as fractions."""
    most = max([bottom for _, bottom in shares], default=1)
    # Two of them are at least 1 / (most * most) apart: so many times as great they have unlike whole parts.
    placed = sorted([(top * most * most // bottom, (top, bottom)) for top, bottom in shares])
    return [share for _, share in placed]
