"""All shares of a stretch, and all with a bottom, that no run leaps."""

from math import gcd

from neverleapt.balance import Balance
from neverleapt.changes import mirrored
from neverleapt.checks import check_share, check_way
from neverleapt.divisors import divisors, solved
from neverleapt.errors import NoNumber, NoStretch, NotBalanced, TooMany
from neverleapt.kinds import by_size, is_below, is_between, lift_of
from neverleapt.knots import hangs
from neverleapt.rings import area, ends, is_balanced

MOST_BOTTOMS = 500
GREATEST_BOTTOM = 200


def all_never(machine, low, high, way):
    """The ascending list of all shares from low to high that no run leaps."""
    _check_stretch((machine,), low, high)
    check_way(way)
    return _all_never(machine, low, high, way)


def unlike_never(machine, other, low, high, way):
    """The ascending list of all shares from low to high that runs of just one of both machines leap."""
    _check_stretch((machine, other), low, high)
    check_way(way)
    first = {share: True for share in _all_never(machine, low, high, way)}
    second = {share: True for share in _all_never(other, low, high, way)}
    unlike = [share for share in first if share not in second]
    return by_size(unlike + [share for share in second if share not in first])


def _check_stretch(machines, low, high):
    check_share(low)
    check_share(high)
    if is_below(high, low):
        raise NoStretch()
    for machine in machines:
        if not is_balanced(machine, low) or not is_balanced(machine, high):
            raise NoStretch()


def _all_never(machine, low, high, way):
    if way == "up":
        return _all_never_up(machine, low, high)
    # What leaps down over a share leaps up over the mirrored one; these stand the other way round.
    found = _all_never_up(mirrored(machine), (-high[0], high[1]), (-low[0], low[1]))
    return [(-top, bottom) for top, bottom in reversed(found)]


def _all_never_up(machine, low, high):
    balance = Balance(machine)
    whole = area(machine, 0) * high[1]
    most_lift = max([lift_of(high, event[2], event[3]) for _, event in balance.numbered])
    if whole > MOST_BOTTOMS * most_lift:
        raise TooMany(MOST_BOTTOMS)
    most = whole // most_lift
    found = []
    for bottom in range(1, most + 1):
        least_top = -(-low[0] * bottom // low[1])
        most_top = high[0] * bottom // high[1]
        # A measure divides the area, and the greatest lift for the share is at most the measure.
        steps = _large_divisors(area(machine, 0), most // bottom)
        found.extend([(top, bottom) for top in _tops(balance, bottom, steps, least_top, most_top)])
    return by_size(found)


def _large_divisors(number, most):
    """The divisors that stand in a number at most so often."""
    return [number // part for part in range(1, most + 1) if number % part == 0]


def _tops(balance, bottom, steps, least, most):
    """The ascending list of the tops from least to most of shares that no run leaps up, their measures being steps."""
    found = {}
    for step in steps:
        for top in _tops_with(balance, bottom, step, least, most):
            if top not in found:
                found[top] = gcd(top, bottom) == 1 and not balance.leaping_up((top, bottom))
    return [top for top in sorted(list(found)) if found[top]]


def _tops_with(balance, bottom, step, least, most):
    """The tops from least to most for which a step divides the measure, and no lift is above it."""
    (tries, points), (_, more) = balance.net
    place = solved(tries, bottom * points, step)
    if place is None or bottom * more % step:
        return []
    for _, event in balance.numbered:
        least = max(least, -((step - bottom * event[3]) // event[2]))
    first, period = place
    return list(range(least + (first - least) % period, most + 1, period))


def never_with(machine, bottom, way):
    """The ascending list of all shares with a bottom for which the machine is balanced and that no run leaps."""
    if not hangs(machine) or ends(machine, 0)[0] == ends(machine, 0)[1]:
        raise NotBalanced()
    if not is_between(bottom, 1, GREATEST_BOTTOM):
        raise NoNumber()
    check_way(way)
    if way == "up":
        return [(top, bottom) for top in _tops_between_ends(machine, bottom)]
    return [(-top, bottom) for top in reversed(_tops_between_ends(mirrored(machine), bottom))]


def _tops_between_ends(machine, bottom):
    low, high = ends(machine, 0)
    least = low[0] * bottom // low[1] + 1
    most = -(-high[0] * bottom // high[1]) - 1
    return _tops(Balance(machine), bottom, divisors(area(machine, 0)), least, most)
