"""3.1 to 3.4: lifts, values, measures, leads, nets, ends, balance."""

import unittest
from fractions import Fraction
from itertools import combinations
from math import gcd

from neverleapt.changes import bundled, mirrored, parted, scaled, shifted
from neverleapt.errors import NoEvent, NoKnot, NoRun, NoShare, NoStanding
from neverleapt.knots import hangs
from neverleapt.machines import Machine, is_run, shares
from neverleapt.phrases import spoken
from neverleapt.rings import area, end_rings, ends, is_balanced, lead, lift, measure, net, value
from tests.phrasesamples import HIT, MISS, event
from tests.samples import (
    EMPTY, H, KNOTTED, NO_SHARES, S, T, deep, knot_with, led_to, odd_things, random_machines, runs_of, simple_rings,
    simple_rows, total_of,
)

SHARES = [(0, 1), (1, 1), (-1, 1), (1, 2), (4, 5), (-7, 3), (10 ** 29 + 1, 10 ** 29), (-3, 10 ** 29), (2, 10 ** 29 + 1)]
RINGS = Machine(4, (
    (0, 1, 2, 1), (1, 2, 3, 4), (2, 0, 1, -2), (1, 0, 4, 4), (2, 3, 5, 5), (3, 3, 6, -4), (0, 2, 1, 7),
))
MACHINES = [
    H, S, T, EMPTY, KNOTTED, RINGS, Machine(1, ()), Machine(1, ((0, 0, 6, -4),)), Machine(1, ((0, 0, 6, 4), (0, 0, 9, 6))),
    Machine(1, ((0, 0, 6, 4), (0, 0, 9, 5))), Machine(1, ((0, 0, 2, 1), (0, 0, 4, 0), (0, 0, 4, 8))),
    Machine(2, ((0, 1, 3, 5), (1, 0, 3, -5))), Machine(2, ((0, 1, 3, 5), (1, 0, 4, -5), (0, 1, 1, 2))),
]


def lift_of(share, pair):
    return share[1] * pair[1] - share[0] * pair[0]


def divisor_of(numbers):
    divisor = 0
    for number in numbers:
        divisor = gcd(divisor, number)
    return divisor


class RingsCase(unittest.TestCase):

    def check_no_share(self, function, *arguments):
        """That no share is refused, ahead of whatever is wrong behind it; the share is the first argument."""
        for thing in odd_things() + NO_SHARES:
            with self.subTest(str(thing)[:40]):
                self.assertRaises(NoShare, function, RINGS, thing, *arguments)
                self.assertRaises(NoShare, function, RINGS, thing, *(None for _ in arguments))

    def check_no_standing(self, function):
        """That what is no reached standing of KNOTTED is refused."""
        for thing in odd_things() + ["", "0", (), (0,), [0], -1, 5, 6, 10 ** 39, deep(40)]:
            with self.subTest(str(thing)[:40]):
                self.assertRaises(NoStanding, function, KNOTTED, thing)

    def check_lead(self, machine, share, one, other):
        told = lead(machine, share, one, other)
        if one == other:
            self.assertEqual(told, 0)
            return
        divisor = measure(machine, share, one)
        if divisor:
            self.assertTrue(0 <= told < divisor)
        for way in simple_rows(machine, one, other):
            rise = lift_of(share, total_of(machine, way))
            self.assertEqual((rise - told) % divisor if divisor else rise - told, 0)

    def check_ring(self, machine, standing, ring):
        self.assertTrue(type(ring) is tuple and ring)
        self.assertTrue(all(type(number) is int and 0 <= number < len(machine.events) for number in ring))
        events = [machine.events[number] for number in ring]
        for one, following in zip(events, events[1:] + events[:1]):
            self.assertEqual(one[1], following[0])
        self.assertIn(events[0][0], knot_with(machine, standing))


class Lifts(RingsCase):

    def test_lift(self):
        for machine in MACHINES:
            for share in SHARES:
                for number, one in enumerate(machine.events):
                    self.assertEqual(lift(machine, share, number), share[1] * one[3] - share[0] * one[2])
        self.assertEqual(lift(H, (4, 5), 0), 1)
        self.assertEqual(lift(H, (4, 5), 1), -4)
        self.assertEqual(lift(KNOTTED, (-2, 3), 2), -19)

    def test_lift_of_events_that_nothing_reaches(self):
        self.assertEqual(lift(KNOTTED, (1, 2), 8), 1)

    def test_no_event(self):
        for thing in odd_things() + ["", "0", (), (0,), [0], -1, 7, 10 ** 39, deep(40)]:
            with self.subTest(str(thing)[:40]):
                self.assertRaises(NoEvent, lift, RINGS, (1, 2), thing)
        self.assertRaises(NoEvent, lift, EMPTY, (1, 2), 0)

    def test_value(self):
        for machine in [H, T, KNOTTED, RINGS] + random_machines(61, 10):
            for share in SHARES:
                for run in runs_of(machine, 3):
                    self.assertEqual(value(machine, share, run), lift_of(share, total_of(machine, run)))
        self.assertEqual(value(H, (7, 10), ()), 0)
        self.assertEqual(value(H, (7, 10), (0, 0, 1, 0)), 2)
        self.assertEqual(value(H, (7, 10), (0, 0, 1)), -1)

    def test_below_at_above(self):
        for run in runs_of(H, 6)[1:]:
            top, bottom = shares(H, run)[-1]
            for share in SHARES:
                above = (Fraction(top, bottom) > Fraction(*share)) - (Fraction(top, bottom) < Fraction(*share))
                told = value(H, share, run)
                self.assertEqual((told > 0) - (told < 0), above)

    def test_no_run(self):
        for thing in odd_things() + ["", "0", 0, [0], (2,), (0, 0), (-1,), (0, 10 ** 39), (False,), ((0,),), deep(40)]:
            with self.subTest(str(thing)[:40]):
                self.assertRaises(NoRun, value, RINGS, (1, 2), thing)

    def test_no_share(self):
        self.check_no_share(lift, 0)
        self.check_no_share(value, ())


class Measures(RingsCase):

    def test_measure(self):
        for machine in MACHINES + random_machines(62, 150):
            for standing in led_to(machine, 0):
                rings = simple_rings(machine, standing)
                for share in SHARES:
                    lifts = [lift_of(share, total_of(machine, ring)) for ring in rings]
                    self.assertEqual(measure(machine, share, standing), divisor_of(lifts))

    def test_of_single_rings(self):
        self.assertEqual(measure(H, (4, 5), 0), 1)
        self.assertEqual(measure(Machine(1, ((0, 0, 6, -4),)), (1, 2), 0), 14)
        self.assertEqual(measure(Machine(1, ((0, 0, 6, -4),)), (-2, 3), 0), 0)
        self.assertEqual(measure(Machine(1, ((0, 0, 6, 4), (0, 0, 9, 6))), (0, 1), 0), 2)
        self.assertEqual(measure(EMPTY, (1, 2), 0), 0)
        self.assertEqual(measure(KNOTTED, (1, 1), 4), 0)
        self.assertEqual(measure(KNOTTED, (-3, 2), 3), 0)
        self.assertEqual(measure(KNOTTED, (0, 1), 3), 3)
        self.assertEqual(measure(KNOTTED, (1, 1), 1), 1)
        self.assertEqual(measure(Machine(2, ((0, 1, 3, 7), (1, 0, 3, 7))), (0, 1), 0), 14)

    def test_errors(self):
        self.check_no_share(measure, 0)
        self.check_no_standing(lambda machine, standing: measure(machine, (1, 2), standing))

    def test_lead(self):
        for machine in MACHINES + random_machines(63, 150):
            for one in led_to(machine, 0):
                knot = knot_with(machine, one)
                for other in led_to(machine, 0):
                    for share in SHARES:
                        if other not in knot:
                            self.assertRaises(NoKnot, lead, machine, share, one, other)
                        else:
                            self.check_lead(machine, share, one, other)

    def test_lead_by_hand(self):
        machine = Machine(2, ((0, 1, 3, 1), (1, 0, 3, 4)))
        self.assertEqual(measure(machine, (0, 1), 0), 5)
        self.assertEqual(lead(machine, (0, 1), 0, 1), 1)
        self.assertEqual(lead(machine, (0, 1), 1, 0), 4)
        self.assertEqual(lead(machine, (1, 1), 0, 1), 0)
        self.assertEqual(lead(mirrored(machine), (0, 1), 0, 1), 4)
        even = Machine(2, ((0, 1, 3, 5), (1, 0, 3, -5)))
        self.assertEqual(lead(even, (0, 1), 0, 1), 5)
        self.assertEqual(lead(even, (0, 1), 1, 0), -5)
        self.assertEqual(lead(EMPTY, (1, 2), 0, 0), 0)

    def test_lead_errors(self):
        self.check_no_share(lead, 0, 1)
        self.check_no_standing(lambda machine, standing: lead(machine, (1, 2), standing, 1))
        self.check_no_standing(lambda machine, standing: lead(machine, (1, 2), 1, standing))
        self.check_no_standing(lambda machine, standing: lead(machine, (1, 2), standing, None))
        for one, other in ((0, 1), (1, 0), (1, 3), (3, 1), (3, 4), (0, 4)):
            self.assertRaises(NoKnot, lead, KNOTTED, (1, 2), one, other)
        self.assertRaises(NoShare, lead, KNOTTED, (2, 4), 0, 1)
        self.assertRaises(NoStanding, lead, KNOTTED, (1, 2), 0, 5)


class Nets(RingsCase):

    def check(self, machine, standing):
        """That the net is that of the rings that come to no standing twice."""
        told = net(machine, standing)
        pairs = [total_of(machine, ring) for ring in simple_rings(machine, standing)]
        self.assertIs(type(told), tuple)
        areas = divisor_of([one[0] * other[1] - one[1] * other[0] for one, other in combinations(pairs, 2)])
        if not pairs:
            self.assertEqual(told, ())
        elif areas == 0:
            (tries, points), = told
            self.assertGreaterEqual(tries, 1)
            self.assertTrue(all(pair == (pair[0] // tries * tries, pair[0] // tries * points) for pair in pairs))
            self.assertEqual(divisor_of([pair[0] // tries for pair in pairs]), 1)
        else:
            (tries, points), (none, rest) = told
            self.assertEqual(none, 0)
            self.assertEqual(tries, divisor_of([pair[0] for pair in pairs]))
            self.assertEqual(tries * rest, areas)
            self.assertTrue(0 <= points < rest)
            for pair in pairs:
                self.assertEqual((pair[1] - pair[0] // tries * points) % rest, 0)
        self.assertEqual(area(machine, standing), areas)
        return len(told)

    def test_against_rings(self):
        forms = {0: 0, 1: 0, 2: 0}
        for machine in MACHINES + random_machines(64, 300) + random_machines(65, 100, 3, 4, 12, 40):
            for standing in led_to(machine, 0):
                forms[self.check(machine, standing)] += 1
        self.assertTrue(all(many > 20 for many in forms.values()))

    def test_forms(self):
        one = Machine(1, ((0, 0, 6, -4),))
        for machine, standing, told, size in (
            (H, 0, ((1, 0), (0, 1)), 1),
            (S, 0, ((1, 0), (0, 1)), 1),
            (T, 1, ((2, 0), (0, 1)), 2),
            (EMPTY, 0, (), 0),
            (KNOTTED, 0, (), 0),
            (KNOTTED, 4, (), 0),
            (KNOTTED, 3, ((2, -3),), 0),
            (one, 0, ((6, -4),), 0),
            (mirrored(one), 0, ((6, 4),), 0),
            (Machine(1, ((0, 0, 6, 4), (0, 0, 9, 6))), 0, ((3, 2),), 0),
            (Machine(1, ((0, 0, 6, 0), (0, 0, 4, 0))), 0, ((2, 0),), 0),
            (Machine(1, ((0, 0, 6, 1), (0, 0, 4, 1))), 0, ((2, 0), (0, 1)), 2),
            (Machine(1, ((0, 0, 2, 1), (0, 0, 4, 0), (0, 0, 4, 8))), 0, ((2, 1), (0, 2)), 4),
            (Machine(1, ((0, 0, 3, -1), (0, 0, 3, 4))), 0, ((3, 4), (0, 5)), 15),
            (Machine(1, ((0, 0, 5, 400), (0, 0, 5, -400))), 0, ((5, 400), (0, 800)), 4000),
            (Machine(1, ((0, 0, 5, 3), (0, 0, 5, 3))), 0, ((5, 3),), 0),
            (Machine(2, ((0, 1, 3, 5), (1, 0, 4, -5), (0, 1, 1, 2))), 0, ((1, 12), (0, 21)), 21),
        ):
            self.assertEqual(net(machine, standing), told)
            self.assertEqual(area(machine, standing), size)

    def test_errors(self):
        self.check_no_standing(net)
        self.check_no_standing(area)


class Ends(RingsCase):

    def check(self, machine, standing, known=None):
        rings = simple_rings(machine, standing) if known is None else known
        if not rings:
            self.assertIsNone(ends(machine, standing))
            self.assertIsNone(end_rings(machine, standing))
            return
        fractions = [Fraction(points, tries) for tries, points in (total_of(machine, ring) for ring in rings)]
        extremes = (min(fractions), max(fractions))
        told = ends(machine, standing)
        self.assertEqual(told, tuple((one.numerator, one.denominator) for one in extremes))
        self.assertTrue(type(told) is tuple and all(type(share) is tuple for share in told))
        found = end_rings(machine, standing)
        self.assertTrue(type(found) is tuple and len(found) == 2)
        for ring, fraction in zip(found, extremes):
            self.check_ring(machine, standing, ring)
            tries, points = total_of(machine, ring)
            self.assertEqual(Fraction(points, tries), fraction)

    def test_against_rings(self):
        for machine in MACHINES + random_machines(66, 300, 6, 12, 5, 9) + random_machines(67, 100, 4, 14, 40, 400):
            for standing in led_to(machine, 0):
                self.check(machine, standing)

    def test_by_hand(self):
        self.assertEqual(ends(H, 0), ((0, 1), (1, 1)))
        self.assertEqual(end_rings(H, 0), ((1,), (0,)))
        self.assertEqual(ends(S, 0), ((1, 1), (5, 1)))
        self.assertEqual(ends(KNOTTED, 1), ((-3, 4), (3, 1)))
        self.assertEqual(ends(KNOTTED, 3), ((-3, 2), (-3, 2)))
        self.assertIsNone(ends(KNOTTED, 0))
        self.assertIsNone(end_rings(KNOTTED, 4))
        self.assertEqual(ends(Machine(2, ((0, 1, 3, 5), (1, 0, 3, -5))), 1), ((0, 1), (0, 1)))

    def test_greatest_machines(self):
        circle = tuple((k, (k + 1) % 12, 1 + k, 7 * k) for k in range(12))
        whole = sum(7 * k for k in range(12)), sum(1 + k for k in range(12))
        machine = Machine(12, circle)
        self.check(machine, 5)
        self.assertEqual(Fraction(*ends(machine, 0)[0]), Fraction(*whole))
        machine = Machine(12, circle + tuple((k + 1, k, 40 - k, 3 * k - 20) for k in range(11)))
        self.check(machine, 5)
        self.check(scaled(scaled(machine, 1000), 999), 3)

    def test_one_event_far_from_the_first_standing(self):
        # The best ring is alone at the last standing, a long way round from the first one.
        for best in range(12):
            events = tuple((k, (k + 1) % 12, 40, 1) for k in range(12)) + ((best, best, 1, 400),)
            machine = Machine(12, events)
            self.assertEqual(ends(machine, 0), ((1, 40), (400, 1)))
            self.assertEqual(end_rings(machine, 0)[1], (12,))
            self.assertEqual(end_rings(mirrored(machine), 0)[0], (12,))

    def test_errors(self):
        self.check_no_standing(ends)
        self.check_no_standing(end_rings)


class Balance(RingsCase):

    def test_against_ends(self):
        for machine in MACHINES + random_machines(68, 200, 3, 6):
            told = ends(machine, 0) if hangs(machine) else None
            for share in SHARES + [(k, 4) for k in (-9, -3, -1, 1, 3, 9)] + list(told or ()):
                balanced = told is not None and Fraction(*told[0]) < Fraction(*share) < Fraction(*told[1])
                self.assertIs(is_balanced(machine, share), balanced)

    def test_by_hand(self):
        for share, balanced in (((0, 1), False), ((1, 1), False), ((1, 2), True), ((1, 10 ** 29), True),
                                ((10 ** 29 - 1, 10 ** 29), True), ((-1, 9), False), ((10, 9), False)):
            self.assertIs(is_balanced(H, share), balanced)

    def test_does_not_hang_together(self):
        # The first ring lies around a half, but a second knot comes behind it.
        events = ((0, 0, 1, 1), (0, 0, 1, 0))
        self.assertIs(is_balanced(Machine(2, events), (1, 2)), True)
        self.assertIs(is_balanced(Machine(2, events + ((0, 1, 1, 1),)), (1, 2)), False)
        self.assertIs(is_balanced(Machine(2, events + ((0, 1, 1, 1), (1, 1, 1, 1), (1, 1, 1, 0))), (1, 2)), False)
        self.assertIs(is_balanced(Machine(2, events + ((1, 0, 1, 1),)), (1, 2)), True)
        for share in SHARES:
            self.assertIs(is_balanced(EMPTY, share), False)
            self.assertIs(is_balanced(KNOTTED, share), False)
            self.assertIs(is_balanced(Machine(1, ((0, 0, 2, 1),)), share), False)

    def test_no_share(self):
        for machine in (H, EMPTY):
            for thing in odd_things() + NO_SHARES + [(2, 4)]:
                with self.subTest(str(thing)[:40]):
                    self.assertIs(is_balanced(machine, thing), False)


class Returned(RingsCase):
    """Machines that others return, of all sizes."""

    def test_parted(self):
        machine = Machine(1, ((0, 0, 40, 7), (0, 0, 30, -3)))
        shares_of_rings = ends(machine, 0)
        lattice = net(machine, 0)
        for points in range(50):
            number = max(range(len(machine.events)), key=lambda number: machine.events[number][2])
            machine = parted(machine, number, 1, 10 ** 30 + points)
            self.assertEqual(net(machine, machine.standings - 1), lattice)
            self.assertEqual(ends(machine, machine.standings - 1), shares_of_rings)
            self.assertEqual(area(machine, 0), lattice[0][0] * lattice[1][1])
            self.assertIs(is_balanced(machine, (0, 1)), True)
            self.assertIs(is_balanced(machine, (1, 5)), False)
            self.assertEqual(measure(machine, (1, 7), 1), measure(machine, (1, 7), 0))
        self.assertEqual(machine.standings, 51)
        self.check_lead(machine, (1, 7), 0, 50)
        self.check_ring(machine, 0, end_rings(machine, 0)[0])

    def test_scaled_and_shifted(self):
        for machine in MACHINES:
            great = shifted(scaled(scaled(machine, 1000), 997), -1000)
            for standing in led_to(machine, 0):
                told = ends(machine, standing)
                if told is not None:
                    least, most = (Fraction(*share) * 997000 - 1000 for share in told)
                    self.assertEqual(ends(great, standing), (
                        (least.numerator, least.denominator), (most.numerator, most.denominator)))
                self.assertEqual(area(great, standing), 997000 * area(machine, standing))
                self.check(great, standing)

    def check(self, machine, standing):
        for share in SHARES:
            lifts = [lift_of(share, total_of(machine, ring)) for ring in simple_rings(machine, standing)]
            self.assertEqual(measure(machine, share, standing), divisor_of(lifts))

    def test_bundled(self):
        machine = bundled(T, 3)
        self.assertEqual(ends(machine, 0), ((0, 1), (1, 1)))
        self.assertEqual(net(machine, 0), ((6, 0), (0, 1)))
        self.assertEqual(lead(machine, (1, 2), 0, 1), 1)

    def test_spoken(self):
        events = tuple(event(1 + k, (7 * k) % 13) for k in range(12))
        machine = spoken(("again", ("row", events)))
        last = machine.events[-1][1]
        self.assertEqual(net(machine, last), ((78, sum(one[2] for one in events)),))
        machine = spoken(("again", ("either", (HIT, ("row", (MISS, MISS, MISS))))))
        run = ()
        standing = 0
        for pair in ((1, 0),) * 3:
            run += tuple(
                number for number, one in enumerate(machine.events) if one[0] == standing and one[2:] == pair)
            standing = machine.events[run[-1]][1]
        self.assertTrue(is_run(machine, run))
        self.assertEqual(ends(machine, standing), ((0, 1), (1, 1)))
        self.assertEqual(net(machine, standing), ((1, 1), (0, 3)))
        self.assertEqual(value(machine, (1, 2), run), -3)

    def test_what_was_passed_stays(self):
        events = RINGS.events
        for number in range(4):
            for function in (net, area, ends, end_rings):
                function(RINGS, number)
            measure(RINGS, (1, 2), number)
            self.assertEqual((RINGS.standings, RINGS.events), (4, events))


class Examples(unittest.TestCase):

    def test_example_e02(self):
        self.assertEqual((measure(H, (4, 5), 0), net(H, 0), ends(H, 0)), (1, ((1, 0), (0, 1)), ((0, 1), (1, 1))))


if __name__ == "__main__":
    unittest.main()
