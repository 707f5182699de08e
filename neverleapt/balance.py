"""What decides, event by event, which shares can be leapt where a machine is balanced."""

from math import gcd

from neverleapt.kinds import lift_of
from neverleapt.rings import net
from neverleapt.ringsearch import total, ways


class Balance:
    """The net of a machine that hangs together, and ways from standing 0 to all others: enough for all shares."""

    def __init__(self, machine):
        found = ways(machine, list(range(len(machine.events))), 0)
        self.net = net(machine, 0)
        self.sums = {standing: total(machine, row) for standing, row in found.items()}
        self.numbered = [
            (number, event) for number, event in enumerate(machine.events) if event[0] in self.sums
        ]

    def measure_for(self, share):
        """The measure for a share."""
        divisor = 0
        for tries, points in self.net:
            divisor = gcd(divisor, lift_of(share, tries, points))
        return divisor

    def rule_up(self, share):
        """The triples (event, lift, greatest lift that is let) of all events that lift, the machine being balanced."""
        step = self.measure_for(share)
        leads = {standing: lift_of(share, pair[0], pair[1]) % step for standing, pair in self.sums.items()}
        found = []
        for number, (before, _, tries, points) in self.numbered:
            rise = lift_of(share, tries, points)
            if rise > 0:
                # The greatest value below 0 that comes at a standing is its lead less one measure.
                found.append((number, rise, step - leads[before]))
        return found

    def leaping_up(self, share):
        """The list of the pairs (lift, event) of all events that leap up in some run, the machine being balanced."""
        return [(rise, number) for number, rise, most in self.rule_up(share) if rise > most]
