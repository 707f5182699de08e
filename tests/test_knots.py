"""1.3: reached standings, knots, machines that hang together."""

import unittest

from neverleapt.changes import parted
from neverleapt.knots import hangs, knots, reached
from neverleapt.machines import Machine
from tests.samples import EMPTY, H, KNOTTED, S, T, knot_with, led_to, random_machines


class Knots(unittest.TestCase):

    def check(self, machine, standings, lots, whole):
        self.assertEqual(reached(machine), standings)
        self.assertIs(type(reached(machine)), tuple)
        self.assertEqual(knots(machine), lots)
        self.assertIs(type(knots(machine)), list)
        self.assertTrue(all(type(knot) is tuple for knot in knots(machine)))
        self.assertIs(hangs(machine), whole)

    def test_without_events(self):
        self.check(Machine(1, ()), (0,), [(0,)], False)
        self.check(EMPTY, (0,), [(0,)], False)

    def test_one_knot(self):
        for machine in (H, S):
            self.check(machine, (0,), [(0,)], True)
        self.check(T, (0, 1), [(0, 1)], True)
        circle = tuple((k, (k + 1) % 12, 1, 0) for k in range(12))
        self.check(Machine(12, circle), tuple(range(12)), [tuple(range(12))], True)

    def test_what_nothing_reaches(self):
        self.check(Machine(3, ((0, 0, 1, 1), (2, 2, 1, 1))), (0,), [(0,)], True)
        self.check(Machine(3, ((2, 2, 1, 1), (1, 0, 1, 1), (1, 2, 1, 1), (2, 1, 1, 1))), (0,), [(0,)], False)
        self.check(Machine(3, ((1, 0, 1, 1), (1, 1, 1, 1), (0, 2, 1, 1), (2, 0, 1, 1))), (0, 2), [(0, 2)], True)

    def test_several_knots(self):
        self.check(KNOTTED, (0, 1, 2, 3, 4), [(0,), (1, 2), (3,), (4,)], False)
        self.check(Machine(2, ((0, 0, 1, 1), (0, 1, 1, 1))), (0, 1), [(0,), (1,)], False)
        self.check(Machine(2, ((0, 1, 1, 1), (1, 1, 1, 1))), (0, 1), [(0,), (1,)], False)
        crossed = Machine(5, ((0, 3, 1, 1), (3, 0, 1, 1), (3, 1, 1, 1), (1, 4, 1, 1), (4, 1, 1, 1)))
        self.check(crossed, (0, 1, 3, 4), [(0, 3), (1, 4)], False)

    def test_standing_alone(self):
        self.check(Machine(1, ((0, 0, 1, 0),)), (0,), [(0,)], True)
        self.check(Machine(2, ((0, 1, 1, 0),)), (0, 1), [(0,), (1,)], False)

    def test_against_all_ways(self):
        for machine in random_machines(21, 300, 7, 10):
            standings = sorted(led_to(machine, 0))
            lots = sorted({tuple(sorted(knot_with(machine, standing))) for standing in standings})
            ring = any(event[0] in standings and event[1] in lots[0] for event in machine.events if event[0] in lots[0])
            self.check(machine, tuple(standings), lots, len(lots) == 1 and ring)
            self.assertEqual(sorted(one for knot in knots(machine) for one in knot), standings)

    def test_returned_machines(self):
        machine = Machine(1, ((0, 0, 40, 0),))
        for many in range(2, 41):
            machine = parted(machine, 0, machine.events[0][2] - 1, 0)
            self.check(machine, tuple(range(many)), [tuple(range(many))], True)

    def test_new_lists(self):
        first = knots(KNOTTED)
        first.append(None)
        self.assertEqual(knots(KNOTTED), [(0,), (1, 2), (3,), (4,)])


if __name__ == "__main__":
    unittest.main()
