"""5.1 and 5.2: the values that come, and closed tables."""

import random
import unittest

from neverleapt.changes import bundled, parted, scaled, shifted
from neverleapt.errors import NoShare, NoWay, TooMany
from neverleapt.lots import Lot, every, is_in, joined, lacking, lot_of, many_in
from neverleapt.machines import Machine
from neverleapt.phrases import spoken
from neverleapt.rings import is_balanced, lead, measure
from neverleapt.tables import is_closed, is_table, table_fault, values
from tests.phrasesamples import HIT, MISS, event
from tests.samples import (
    EMPTY, H, KNOTTED, LINKED, NO_SHARES, NO_WAYS, S, T, deep, knotted_machines, led_to, odd_things, random_machines,
    runs_of, total_of,
)
from tests.slow import GREAT_SHARES, SHARES, lift, states_of
from tests.test_lots import parts_of, random_parts

NONE = lot_of(())
ALL = every(1, 0)
GREATEST = Machine(12, tuple(
    (k % 12, (5 * k + 7 * (k // 12)) % 12, 1 + (7 * k) % 40, 400 - 37 * k % 801) for k in range(30)
))


def random_table(source, machine):
    """A tuple of lots, one for each standing, each of them small, all integers, or none."""
    choices = [lambda: NONE, lambda: ALL, lambda: Lot(*random_parts(source, 4, 5)), lambda: lot_of((0, 1))]
    return tuple(source.choice(choices)() for _ in range(machine.standings))


def fault_of(machine, share, way, table):
    """The fault of a table, by a plain look at all integers near 0."""
    near = sorted(range(-120, 121), key=lambda number: (abs(number), -number))
    if not is_in(table[0], 0):
        return ("begin",)
    for number, one in enumerate(machine.events):
        for start in near:
            if is_in(table[one[0]], start) and not is_in(table[one[1]], start + lift(share, one)):
                return ("event", number, start)
    sign = 1 if way == "up" else -1
    for number, one in enumerate(machine.events):
        for start in near:
            if is_in(table[one[0]], start) and sign * start < 0 < sign * (start + lift(share, one)):
                return ("leap", number, start)
    return None


class Values(unittest.TestCase):

    def check_near(self, machine, share, far=400):
        """That near 0 just what comes without going far away stands in the lots."""
        told = values(machine, share)
        self.assertIs(type(told), tuple)
        self.assertEqual(len(told), machine.standings)
        came = states_of(machine, share, far)
        for standing, lot in enumerate(told):
            self.assertIs(type(lot), Lot)
            near = [number for number in range(-50, 51) if is_in(lot, number)]
            self.assertEqual(near, [number for number in range(-50, 51) if (standing, number) in came])
        return told

    def test_against_all_that_comes(self):
        for machine in [H, S, T, EMPTY, LINKED] + random_machines(71, 120, 5, 7, 3, 4):
            for share in ((0, 1), (1, 2), (-1, 1), (2, 3), (-3, 2), (4, 1)):
                self.check_near(machine, share)

    def test_of_chains_of_knots(self):
        source = random.Random(72)
        for machine in random_machines(73, 250, 5, 8, 3, 4):
            events = tuple((min(one[:2]), max(one[:2])) + one[2:] for one in machine.events)
            self.check_near(Machine(machine.standings, events), source.choice(SHARES))

    def test_of_knots_with_rings_on_one_side(self):
        source = random.Random(74)
        for machine in random_machines(75, 150, 4, 8, 3, 4):
            for sign in (1, -1):
                events = tuple(one[:3] + (sign * abs(one[3]),) for one in machine.events)
                self.check_near(Machine(machine.standings, events), source.choice([(0, 1), (sign, 3), (sign, 2)]))

    def test_of_knots_of_all_kinds_entered_anywhere(self):
        for machine in knotted_machines(85, 150):
            self.check_near(machine, (0, 1), 200)

    def test_level_knots_and_tails_by_hand(self):
        # A knot that is level, entered at its second standing; one that rises, entered so from endless tails.
        level = Machine(3, ((0, 2, 1, 7), (1, 2, 1, 5), (2, 1, 1, -5)))
        self.assertTrue(values(level, (0, 1)) == (lot_of([0]), lot_of([2]), lot_of([7])))
        rising = Machine(3, ((0, 0, 1, -4), (0, 2, 1, 1), (1, 2, 1, 5), (2, 1, 1, 3)))
        told = values(rising, (0, 1))
        self.assertTrue(told == (Lot(1, 1, (), 4, (0,), ()), every(4, 0), every(4, 1)))

    def test_runs_lead_into_them(self):
        for machine in [KNOTTED, LINKED, GREATEST] + random_machines(76, 40):
            for share in SHARES[:5]:
                try:
                    told = values(machine, share)
                except TooMany as error:
                    self.assertEqual(error.most, 4000)
                    continue
                for run in runs_of(machine, 3):
                    tries, points = total_of(machine, run)
                    end = machine.events[run[-1]][1] if run else 0
                    self.assertTrue(is_in(told[end], share[1] * points - share[0] * tries))

    def test_balanced(self):
        seen = 0
        for machine in [H, S, T, GREATEST] + random_machines(77, 200):
            for share in SHARES + GREAT_SHARES + [(1, 7), (3, 40), (1, 400)]:
                if not is_balanced(machine, share):
                    continue
                step = measure(machine, share, 0)
                if step > 4000:
                    with self.assertRaises(TooMany) as caught:
                        values(machine, share)
                    self.assertEqual(caught.exception.most, 4000)
                    continue
                seen += 1
                reached = led_to(machine, 0)
                for standing, lot in enumerate(values(machine, share)):
                    due = every(step, lead(machine, share, 0, standing)) if standing in reached else NONE
                    self.assertTrue(lot == due)
        self.assertGreater(seen, 200)

    def test_measures_of_4000_and_more(self):
        machine = Machine(2, ((0, 1, 1, 1), (1, 0, 1, 3), (1, 0, 1, -5)))
        for by in (1, 37, 999, 1000):
            told = values(scaled(machine, by), (0, 1))
            self.assertEqual(parts_of(told[0]), (0, 0, (), 4 * by, (0,), (0,)))
            self.assertEqual(parts_of(told[1]), (0, 0, (), 4 * by, (by,), (by,)))
        machine = Machine(1, ((0, 0, 1, 4), (0, 0, 1, -4)))
        self.assertEqual(parts_of(values(scaled(machine, 1000), (0, 1))[0]), (0, 0, (), 4000, (0,), (0,)))
        machine = scaled(Machine(1, ((0, 0, 1, 7), (0, 0, 1, -7))), 572)
        self.assertEqual(measure(machine, (0, 1), 0), 4004)
        self.assertRaises(TooMany, values, machine, (0, 1))

    def test_by_hand(self):
        self.assertTrue(values(H, (1, 2))[0] == every(1, 0))
        self.assertTrue(values(H, (0, 1))[0] == Lot(0, 0, (), 1, (), (0,)))
        self.assertTrue(values(H, (1, 1))[0] == Lot(1, 1, (), 1, (0,), ()))
        machine = Machine(1, ((0, 0, 1, 3), (0, 0, 1, 5)))
        self.assertEqual(parts_of(values(machine, (0, 1))[0]), (0, 8, (0, 3, 5, 6), 1, (), (0,)))
        machine = Machine(2, ((0, 0, 1, 4), (0, 1, 1, 1), (1, 1, 1, -6)))
        self.assertEqual([parts_of(lot) for lot in values(machine, (0, 1))], [
            (-3, -3, (), 4, (), (0,)), (0, 0, (), 2, (1,), (1,))])
        even = Machine(2, ((0, 1, 3, 5), (1, 0, 3, -5)))
        self.assertTrue(values(even, (0, 1)) == (lot_of([0]), lot_of([5])))

    def test_standings_that_nothing_reaches(self):
        self.assertTrue(values(EMPTY, (1, 2)) == (lot_of([0]), NONE, NONE))
        self.assertTrue(values(KNOTTED, (0, 1))[5] == NONE)
        for machine in random_machines(78, 100):
            for standing, lot in enumerate(values(machine, (1, 2))):
                self.assertIs(lot == NONE, standing not in led_to(machine, 0))

    def test_they_are_closed_tables(self):
        for machine in [H, S, T, LINKED, KNOTTED] + random_machines(79, 150):
            for share in SHARES[:6]:
                try:
                    told = values(machine, share)
                except TooMany:
                    self.assertFalse(is_balanced(machine, share))
                    continue
                self.assertIs(is_closed(machine, share, told), True)
                for way in ("up", "down"):
                    fault = table_fault(machine, share, way, told)
                    self.assertTrue(fault is None or fault[0] == "leap")

    def test_great_shares(self):
        for machine in [S, KNOTTED, LINKED, EMPTY, GREATEST] + random_machines(80, 60):
            for share in GREAT_SHARES:
                try:
                    told = values(machine, share)
                except TooMany as error:
                    self.assertEqual(error.most, 4000)
                    self.assertFalse(is_balanced(machine, share) and measure(machine, share, 0) <= 4000)
                    continue
                self.assertIs(is_closed(machine, share, told), True)
        self.assertTrue(values(H, (1, 10 ** 29))[0] == ALL)
        self.assertTrue(values(H, (10 ** 29, 10 ** 29 + 1))[0] == ALL)

    def test_returned_machines(self):
        base = Machine(2, ((0, 1, 20, 3), (1, 0, 30, -4), (1, 1, 10, 2), (0, 0, 7, -3)))
        told = values(base, (0, 1))
        machine = base
        for many in range(20):
            part = machine.events[many % 2][2] - 1
            machine = parted(machine, many % 2, part, (-1) ** many * (10 ** 39 - many))
            self.assertTrue(values(machine, (0, 1))[:2] == told)
        far = values(machine, (0, 1))[2]
        self.assertEqual(many_in(far, 10 ** 39 - 10 ** 9, 10 ** 39 + 10 ** 9), 2 * 10 ** 9)
        self.assertTrue(values(shifted(base, 1000), (1000, 1)) == told)
        self.assertTrue(values(scaled(base, 1000), (0, 1))[0] == every(1000, 0))
        self.assertTrue(values(bundled(H, 4), (1, 2)) == (every(2, 0),))
        phrase = ("again", ("either", (("row", (HIT, MISS, event(2, 3))), ("row", (MISS, event(3, -1))))))
        self.check_near(spoken(phrase), (1, 2))

    def test_no_share(self):
        for thing in odd_things() + NO_SHARES:
            with self.subTest(str(thing)[:40]):
                self.assertRaises(NoShare, values, H, thing)

    def test_example_e08(self):
        self.assertIs(values(H, (1, 2))[0] == every(1, 0), True)


class Tables(unittest.TestCase):

    def check(self, machine, share, way, table, fault):
        self.assertEqual(table_fault(machine, share, way, table), fault)
        self.assertIs(is_table(machine, share, way, table), fault is None)
        self.assertIs(is_closed(machine, share, table), fault is None or fault[0] == "leap")

    def test_against_all_integers(self):
        source = random.Random(81)
        kinds = {}
        for machine in [H, T, S, EMPTY] + random_machines(82, 400, 3, 4, 2, 3):
            share = source.choice([(0, 1), (1, 2), (1, 1), (-1, 2)])
            for _ in range(6):
                table = random_table(source, machine)
                for way in ("up", "down"):
                    fault = fault_of(machine, share, way, table)
                    self.check(machine, share, way, table, fault)
                    kinds[fault and fault[0]] = kinds.get(fault and fault[0], 0) + 1
        self.assertTrue(all(kinds[kind] > 10 for kind in (None, "begin", "event", "leap")))

    def test_against_what_comes(self):
        source = random.Random(83)
        leaps = 0
        for machine in random_machines(84, 200, 4, 7, 3, 4):
            share = source.choice(SHARES[:6])
            table = values(machine, share)
            for way in ("up", "down"):
                fault = fault_of(machine, share, way, table)
                self.check(machine, share, way, table, fault)
                leaps += fault is not None
        self.assertGreater(leaps, 50)

    def test_form(self):
        for table in (
            (), (ALL,), (ALL, ALL, ALL), [ALL, ALL], (ALL, None), (None, ALL), (ALL, (0, 0, (), 1, (), ())), (H, ALL),
            ((ALL, ALL),), ((ALL,), (ALL,)), "", None, ALL, {0: ALL, 1: ALL},
        ):
            for way in ("up", "down"):
                self.check(T, (1, 2), way, table, ("form",))
        for thing in odd_things() + [deep(40), [], "x"]:
            with self.subTest(str(thing)[:40]):
                self.check(H, (1, 2), "up", thing, ("form",))
                self.check(H, (1, 2), "up", (thing,), ("form",))

    def test_begin(self):
        for lot in (NONE, lot_of([1]), every(2, 1), lacking(lot_of([0])), Lot(1, 1, (), 1, (), (0,))):
            for way in ("up", "down"):
                self.check(H, (1, 2), way, (lot,), ("begin",))
                self.check(T, (1, 2), way, (lot, NONE), ("begin",))
        self.check(EMPTY, (1, 2), "up", (lot_of([0]), NONE, NONE), None)
        self.check(EMPTY, (1, 2), "up", (lot_of([0]), ALL, ALL), None)

    def test_events_that_lead_out(self):
        share = (0, 1)
        machine = Machine(2, ((0, 1, 1, 2), (1, 0, 1, -2), (1, 1, 1, 1)))
        self.check(machine, share, "up", (lot_of([0]), NONE), ("event", 0, 0))
        self.check(machine, share, "up", (lot_of([0]), lot_of([2])), ("event", 2, 2))
        self.check(machine, share, "up", (every(2, 0), ALL), ("event", 1, 1))
        self.check(machine, share, "up", (lacking(lot_of([3, -3])), ALL), ("event", 1, -1))
        self.check(machine, share, "up", (lacking(lot_of([-5, 1])), ALL), ("event", 1, 3))
        # Of -3 and 3 the one above 0 is told.
        self.check(machine, share, "up", (lacking(lot_of([1, -5])), ALL), ("event", 1, 3))
        self.check(machine, share, "down", (ALL, lacking(lot_of([5, -1]))), ("event", 0, 3))

    def test_events_of_standings_that_nothing_reaches(self):
        machine = Machine(3, ((0, 0, 1, 0), (2, 0, 1, 3), (1, 2, 1, 1)))
        self.check(machine, (0, 1), "up", (lot_of([0]), NONE, NONE), None)
        self.check(machine, (0, 1), "up", (lot_of([0]), NONE, lot_of([-3])), None)
        self.check(machine, (0, 1), "up", (lot_of([0]), NONE, lot_of([-2])), ("event", 1, -2))
        self.check(machine, (0, 1), "up", (lot_of([0, 1]), NONE, lot_of([-2])), ("leap", 1, -2))
        self.check(machine, (0, 1), "down", (lot_of([0, 1]), NONE, lot_of([-2])), None)

    def test_leaps(self):
        share = (0, 1)
        machine = Machine(1, ((0, 0, 1, -1), (0, 0, 1, 3), (0, 0, 1, 2), (0, 0, 1, -5)))
        self.check(machine, share, "up", (ALL,), ("leap", 1, -1))
        self.check(machine, share, "down", (ALL,), ("leap", 3, 1))
        machine = Machine(1, ((0, 0, 1, 7), (0, 0, 1, -7)))
        self.check(machine, share, "up", (joined(every(7, 0), every(7, 3)),), ("leap", 0, -4))
        self.check(machine, share, "down", (joined(every(7, 0), every(7, 3)),), ("leap", 1, 3))
        self.check(machine, share, "up", (every(7, 0),), None)
        self.check(machine, share, "down", (every(7, 0),), None)

    def test_faults_kind_by_kind(self):
        # The first event leaps, and the second leads out.
        machine = Machine(1, ((0, 0, 1, 2), (0, 0, 1, -2)))
        table = Lot(-9, -9, (), 1, (), (0,))
        self.check(machine, (0, 1), "up", (table,), ("event", 1, -8))
        self.check(machine, (0, 1), "up", (ALL,), ("leap", 0, -1))
        self.check(machine, (0, 1), "up", (lacking(lot_of([0])),), ("begin",))

    def test_nearest_far_away(self):
        far = 4 * 10 ** 38
        machine = Machine(1, ((0, 0, 1, 4), (0, 0, 1, -4)))
        evens = every(2, 0)
        self.check(machine, (0, 1), "up", (evens,), ("leap", 0, -2))
        lot = Lot(far, far, (), 4, (0,), (0, 1))
        self.check(machine, (0, 1), "up", (lot,), ("event", 1, far + 1))
        lot = Lot(-far, -far, (), 4, (0, 1), (0,))
        self.check(machine, (0, 1), "up", (lot,), ("event", 0, -far - 3))
        lot = Lot(-far, -far, (), 4, (), (0,))
        self.check(machine, (0, 1), "up", (lot,), ("event", 1, -far))
        lot = Lot(far, far + 3, (far, far + 2), 4, (0,), (0,))
        self.check(machine, (0, 1), "down", (lot,), ("event", 0, far + 2))

    def test_great_steps(self):
        # Between two standings, by steps of 4000 and 3999, just one integer of each 15996000 leads out.
        machine = Machine(2, ((0, 1, 1, 1), (1, 1, 1, 0)))
        missing = Lot(0, 0, (), 3999, tuple(range(3998)), tuple(range(3998)))
        start = next(number for number in range(0, 10 ** 8, 4000) if (number + 1) % 3999 == 3998)
        below = next(number for number in range(0, -10 ** 8, -4000) if (number + 1) % 3999 == 3998)
        nearest = start if start <= -below else below
        self.check(machine, (0, 1), "up", (every(4000, 0), missing), ("event", 0, nearest))

    def test_great_shares(self):
        for share in GREAT_SHARES:
            for way in ("up", "down"):
                self.check(H, share, way, (lot_of([0]),), ("event", 0, 0))
                self.check(EMPTY, share, way, (lot_of([0]), NONE, NONE), None)
                sign = 1 if way == "up" else -1
                lifts = [sign * lift(share, one) for one in GREATEST.events]
                first = next((number for number, rise in enumerate(lifts) if rise > 1), None)
                fault = None if first is None else ("leap", first, -sign)
                self.check(GREATEST, share, way, (ALL,) * 12, fault)

    def test_errors(self):
        table = (ALL,)
        for thing in odd_things() + NO_SHARES:
            with self.subTest(str(thing)[:40]):
                self.assertRaises(NoShare, is_closed, H, thing, table)
                self.assertRaises(NoShare, is_table, H, thing, "up", table)
                self.assertRaises(NoShare, table_fault, H, thing, "up", table)
                self.assertRaises(NoShare, is_table, H, thing, None, None)
                self.assertRaises(NoShare, table_fault, H, thing, None, None)
                self.assertRaises(NoShare, is_closed, H, thing, None)
        for thing in odd_things() + NO_WAYS:
            with self.subTest(str(thing)[:40]):
                self.assertRaises(NoWay, is_table, H, (1, 2), thing, table)
                self.assertRaises(NoWay, table_fault, H, (1, 2), thing, table)
                self.assertRaises(NoWay, is_table, H, (1, 2), thing, None)

    def test_what_was_passed_stays(self):
        for machine in (T, LINKED):
            table = values(machine, (1, 2))
            parts = [parts_of(lot) for lot in table]
            events = machine.events
            for way in ("up", "down"):
                first = table_fault(machine, (1, 2), way, table)
                self.assertEqual(table_fault(machine, (1, 2), way, table), first)
            self.assertTrue(values(machine, (1, 2)) == table)
            self.assertEqual([parts_of(lot) for lot in table], parts)
            self.assertEqual(machine.events, events)


if __name__ == "__main__":
    unittest.main()
