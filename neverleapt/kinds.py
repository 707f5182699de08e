"""What integers, pairs and shares are, for all other files."""

from math import gcd


def is_whole(thing):
    """Whether a thing is an integer: Python counts flags among them, the document does not."""
    return isinstance(thing, int) and not isinstance(thing, bool)


def is_between(thing, low, high):
    """Whether a thing is an integer from low to high, both with them."""
    return is_whole(thing) and low <= thing <= high


def is_pair(thing):
    """Whether a thing is a tuple of two integers."""
    return isinstance(thing, tuple) and len(thing) == 2 and is_whole(thing[0]) and is_whole(thing[1])


def is_share(thing):
    """Whether a thing is a share: in lowest terms, with the bottom above 0."""
    return is_pair(thing) and thing[1] >= 1 and gcd(thing[0], thing[1]) == 1


def share_of(points, tries):
    """The share points / tries, tries being above 0."""
    common = gcd(points, tries)
    return (points // common, tries // common)


def is_below(share, other):
    """Whether the one share is, as a fraction, below the other."""
    return share[0] * other[1] < other[0] * share[1]
