"""Grids: which points rows of events can have, at which standing, behind so many tries."""


class Grid:
    """For each number of tries from 0 on a dict of the standings at which rows from the begins can be with them.

    With each standing stands the pair (points, row of bits): bit k tells that these points and k grains can be had.
    If there is a share, no row is followed beyond where it is shown, ahead being the value at the begins; met is
    then the list of the pairs (tries, standing) where it is.
    """

    def __init__(self, machine, grain, begins, tries, share, ahead):
        self.machine = machine
        self.grain = grain
        self.layers = [{standing: (0, 1) for standing in begins}]
        self.met = []
        for behind in range(1, tries + 1):
            layer = self._next_layer(behind)
            if share is not None:
                layer = self._barred(layer, behind, share, ahead)
            self.layers.append(layer)

    def _next_layer(self, tries):
        rows = {}
        for before, after, spent, points in self.machine.events:
            if spent <= tries and before in self.layers[tries - spent]:
                least, bits = self.layers[tries - spent][before]
                rows.setdefault(after, []).append((least + points, bits))
        return {standing: self._joined(parts) for standing, parts in rows.items()}

    def _joined(self, parts):
        least = min([points for points, _ in parts])
        bits = 0
        for points, row in parts:
            bits |= row << ((points - least) // self.grain)
        return (least, bits)

    def _barred(self, layer, tries, share, ahead):
        # The share is shown where ahead and the lift of these tries and points make 0.
        points, rest = divmod(share[0] * tries - ahead, share[1])
        if rest:
            return layer
        left = {}
        for standing, (least, bits) in layer.items():
            place = self.place_in(layer, standing, points)
            if place is not None:
                self.met.append((tries, standing))
                bits ^= 1 << place
            if bits:
                left[standing] = (least, bits)
        return left

    def place_in(self, layer, standing, points):
        """The place of the bit of these points in a layer, None if it is not set."""
        if standing not in layer:
            return None
        least, bits = layer[standing]
        place, rest = divmod(points - least, self.grain)
        # Points may be far away: no row is moved by so much.
        if rest or not 0 <= place < bits.bit_length() or not (bits >> place) & 1:
            return None
        return place

    def has(self, tries, standing, points):
        """Whether a row leads to a standing with so many tries and points."""
        return self.place_in(self.layers[tries], standing, points) is not None

    def standings_with(self, tries, points):
        """The list of the standings to which rows lead with so many tries and points."""
        return [standing for standing in self.layers[tries] if self.has(tries, standing, points)]

    def row_to(self, tries, standing, points, order):
        """A row of events that leads so, the last ones chosen first, in an order of their numbers."""
        row = []
        while tries > 0:
            number = self._last_event(tries, standing, points, order)
            row.append(number)
            standing, _, spent, gained = self.machine.events[number]
            tries -= spent
            points -= gained
        return tuple(reversed(row))

    def _last_event(self, tries, standing, points, order):
        for number in order:
            before, after, spent, gained = self.machine.events[number]
            if after == standing and spent <= tries and self.has(tries - spent, before, points - gained):
                return number
        return None

    def leading_to(self, goals):
        """Layers likewise, of all that can lead to goals, which are the last of them."""
        good = [{} for _ in self.layers]
        good[-1] = goals
        for tries in reversed(range(len(self.layers))):
            for before, after, spent, points in self.machine.events:
                if spent > tries or after not in good[tries] or before not in self.layers[tries - spent]:
                    continue
                least, bits = self.layers[tries - spent][before]
                base, row = good[tries][after]
                bits &= row >> ((least + points - base) // self.grain)
                if bits:
                    others = good[tries - spent].get(before, (least, 0))
                    good[tries - spent][before] = (least, bits | others[1])
        return good
