"""5.3: whether no run leaps, and the rule that decides it."""

import random
import unittest
from fractions import Fraction
from math import gcd

from neverleapt.changes import mirrored, parted, scaled, shifted, struck
from neverleapt.errors import NoShare, NotBalanced, NoWay, TooMany
from neverleapt.leaping import leap, widest
from neverleapt.machines import Machine
from neverleapt.phrases import spoken
from neverleapt.rings import is_balanced, lead, measure
from neverleapt.tables import is_table, values
from neverleapt.verdicts import never, rule
from tests.phrasesamples import HIT, MISS, event
from tests.samples import (
    EMPTY, H, KNOTTED, LINKED, NO_SHARES, NO_WAYS, S, T, knotted_machines, led_to, odd_things, random_machines,
)
from tests.slow import GREAT_SHARES, SHARES, leaping_runs, lift, states_of
from tests.test_tables import GREATEST

WAYS = ("up", "down")


def leaps_in(machine, share, way, states):
    """Whether an event leaps from one of these states."""
    sign = 1 if way == "up" else -1
    return any(
        one[0] == standing and sign * value < 0 < sign * (value + lift(share, one))
        for standing, value in states for one in machine.events
    )


class Never(unittest.TestCase):

    def check(self, machine, share, way, told):
        self.assertIs(never(machine, share, way), told)

    def test_against_all_that_comes(self):
        many = {True: 0, False: 0}
        for machine in [H, S, T, EMPTY, LINKED] + random_machines(91, 250, 5, 7, 3, 4):
            for share in SHARES[:6]:
                states = states_of(machine, share, 300)
                for way in WAYS:
                    told = not leaps_in(machine, share, way, states)
                    self.check(machine, share, way, told)
                    many[told] += 1
        self.assertTrue(min(many.values()) > 200)

    def test_against_tables(self):
        for machine in [KNOTTED, LINKED, GREATEST, S] + random_machines(92, 150, 6, 9, 5, 9):
            for share in SHARES:
                try:
                    table = values(machine, share)
                except TooMany:
                    continue
                for way in WAYS:
                    self.check(machine, share, way, is_table(machine, share, way, table))

    def test_against_short_runs(self):
        for machine in [KNOTTED] + random_machines(93, 100, 4, 5):
            for share in SHARES + GREAT_SHARES[:3]:
                for way in WAYS:
                    if leaping_runs(machine, share, way, 5):
                        self.check(machine, share, way, False)

    def test_one_standing(self):
        # Without two kinds of lifts nothing is leapt, however great they are; otherwise the measure decides.
        source = random.Random(94)
        for _ in range(300):
            machine = Machine(1, tuple(
                (0, 0, source.randint(1, 40), source.randint(-400, 400)) for _ in range(source.randint(0, 5))
            ))
            for share in GREAT_SHARES + SHARES[:3] + [(source.randint(-9, 9) * 7 + 1, 7)]:
                lifts = [lift(share, one) for one in machine.events]
                step = 0
                for one in lifts:
                    step = gcd(step, one)
                both = any(one > 0 for one in lifts) and any(one < 0 for one in lifts)
                self.check(machine, share, "up", not both or max(lifts) <= step)
                self.check(machine, share, "down", not both or -min(lifts) <= step)

    def test_rings_on_one_side(self):
        for sign in (1, -1):
            machine = Machine(2, ((0, 1, 1, -5 * sign), (1, 0, 1, 6 * sign), (1, 1, 1, 3 * sign), (0, 0, 1, sign)))
            states = states_of(machine, (0, 1), 200)
            for way in WAYS:
                self.check(machine, (0, 1), way, not leaps_in(machine, (0, 1), way, states))
        # The way out sinks by 5; up again it goes by 3, and on to 0 or not.
        for points, told in ((-3, True), (-5, False), (-6, True), (-9, True), (-10, False)):
            self.check(Machine(2, ((0, 1, 1, points), (1, 1, 1, 3))), (0, 1), "up", told)
            self.check(Machine(2, ((0, 1, 1, -points), (1, 1, 1, -3))), (0, 1), "down", told)

    def test_without_rings(self):
        self.check(EMPTY, (1, 2), "up", True)
        chain = Machine(4, ((0, 1, 1, 0), (1, 2, 1, 1), (2, 3, 1, 0)))
        for share, up, down in (((1, 2), True, True), ((1, 3), False, True), ((2, 5), False, False), ((1, 4), False, True)):
            states = states_of(chain, share, 100)
            self.assertEqual((not leaps_in(chain, share, "up", states), not leaps_in(chain, share, "down", states)), (up, down))
            self.check(chain, share, "up", up)
            self.check(chain, share, "down", down)
        great = Machine(3, ((0, 1, 1, 0), (1, 2, 40, 400)))
        self.check(great, (1, 10 ** 29), "up", False)
        self.check(great, (10 ** 29, 1), "up", True)

    def test_several_knots(self):
        for machine in (LINKED, KNOTTED):
            for share in SHARES:
                states = states_of(machine, share, 400)
                for way in WAYS:
                    self.check(machine, share, way, not leaps_in(machine, share, way, states))
        # From a balanced knot another one is entered, where just one event lifts by more than a measure.
        machine = Machine(2, ((0, 0, 1, 2), (0, 0, 1, -2), (0, 1, 1, 0), (1, 1, 1, 3)))
        self.check(machine, (0, 1), "up", False)
        self.check(struck(machine, (3,)), (0, 1), "up", True)
        self.check(machine, (0, 1), "down", True)

    def test_knots_of_all_kinds(self):
        for machine in knotted_machines(87, 150):
            states = states_of(machine, (0, 1), 200)
            for way in WAYS:
                self.check(machine, (0, 1), way, not leaps_in(machine, (0, 1), way, states))

    def test_great_lifts_beside_few_values(self):
        # So great that no table can be told, but with rings on one side the values soon are far away for good.
        told = 0
        for machine in knotted_machines(88, 150) + random_machines(89, 150, 5, 8, 3, 4):
            great = scaled(scaled(scaled(machine, 1000), 1000), 999)
            for way in WAYS:
                try:
                    self.check(great, (0, 1), way, never(machine, (0, 1), way))
                    told += 1
                except TooMany:
                    self.assertFalse(is_balanced(machine, (0, 1)))
        self.assertGreater(told, 400)

    def test_great_lifts_beside_some_thousands_of_values(self):
        # Eight steps upwards, of thousands of sums, then three downwards, or the last one upwards again.
        share = (1, 10 ** 29)
        rising = tuple(
            (k, k + 1, tries, points) for k in range(8) for tries, points in ((1, 1), (1, 1 + 2 ** k), (4 * k + 2, 2)))
        sinking = tuple((k, k + 1, tries, -150) for k in (8, 9) for tries in (1, 9))
        for last, up in ((-1, True), (400, False)):
            machine = Machine(12, rising + sinking + ((10, 11, 1, last - 1), (10, 11, 1, last)))
            self.assertRaises(TooMany, values, machine, share)
            self.check(machine, share, "up", up)
            self.check(machine, share, "down", False)
            self.check(mirrored(machine), (-1, 10 ** 29), "down", up)
            self.assertEqual(widest(machine, share, "up"), None if up else (lift(share, machine.events[-1]), 29))
            self.assertEqual(widest(machine, share, "down"), (-lift(share, machine.events[25]), 25))

    def test_where_neither_a_table_nor_a_search_tells(self):
        # From far below a ring leads up by 2, along one of two rows of numbers far apart.
        machine = Machine(2, ((0, 1, 2, -1), (1, 1, 2, 0), (0, 1, 3, -4)))
        for function in (never, widest, leap):
            with self.assertRaises(TooMany) as caught:
                function(machine, (-1, 10 ** 29), "up")
            self.assertEqual(caught.exception.most, 4000)

    def test_lifts_with_a_common_divisor(self):
        # By steps of 8000 no table can be told; by those of 1 it can.
        machine = Machine(2, ((0, 0, 1, 1), (0, 1, 1, 0), (1, 1, 1, 1), (1, 1, 1, -1), (1, 0, 1, 2)))
        for events in ((0, 1, 2, 3), (0, 1, 3), (1, 3)):
            rest = struck(machine, tuple(number for number in range(5) if number not in events))
            great = scaled(scaled(rest, 1000), 8)
            for way in WAYS:
                self.check(great, (0, 1), way, never(rest, (0, 1), way))
                self.assertIsNone(widest(great, (0, 1), way))
        great = scaled(scaled(Machine(2, machine.events[:4] + ((1, 1, 1, 3),)), 1000), 8)
        self.check(great, (0, 1), "up", False)
        self.assertEqual(widest(great, (0, 1), "up"), (24000, 4))
        self.check(Machine(2, ((0, 1, 1, 0), (1, 1, 1, 0))), (0, 1), "up", True)

    def test_both_ways(self):
        for machine in random_machines(95, 100):
            for top, bottom in SHARES:
                for way, other in (WAYS, WAYS[::-1]):
                    self.check(mirrored(machine), (-top, bottom), other, never(machine, (top, bottom), way))

    def test_balanced_is_never_too_many(self):
        for machine in [H, S, T, GREATEST] + random_machines(96, 150, 6, 12, 40, 400):
            for share in SHARES + GREAT_SHARES:
                if is_balanced(machine, share):
                    for way in WAYS:
                        self.assertIn(never(machine, share, way), (True, False))

    def test_too_many_only_where_it_may(self):
        told = 0
        for machine in random_machines(97, 200, 4, 7):
            for share in GREAT_SHARES:
                for way in WAYS:
                    try:
                        self.assertIn(never(machine, share, way), (True, False))
                        told += 1
                    except TooMany as error:
                        self.assertEqual(error.most, 4000)
                        self.assertFalse(is_balanced(machine, share) or machine.standings == 1)
        self.assertGreater(told, 2000)

    def test_returned_machines(self):
        base = Machine(2, ((0, 1, 20, 3), (1, 0, 30, -4), (1, 1, 10, 2), (0, 0, 7, -3)))
        for share in SHARES + [(-1, 40), (1, 50)]:
            told = [never(base, share, way) for way in WAYS]
            top, bottom = share
            for by in (-1000, 7, 1000):
                self.assertEqual([never(shifted(base, by), (top + by * bottom, bottom), way) for way in WAYS], told)
            common = gcd(1000 * top, bottom)
            there = (1000 * top // common, bottom // common)
            self.assertEqual([never(scaled(base, 1000), there, way) for way in WAYS], told)
        # Parted far away, the first part leaps, and the rest leaps back.
        machine = parted(Machine(1, ((0, 0, 2, 1), (0, 0, 1, 0))), 0, 1, 10 ** 39)
        self.check(machine, (1, 4), "up", False)
        self.check(machine, (1, 4), "down", False)
        phrase = ("again", ("either", (HIT, ("row", (MISS, MISS, event(2, 3))))))
        machine = spoken(phrase)
        for share in SHARES:
            states = states_of(machine, share, 400)
            for way in WAYS:
                self.check(machine, share, way, not leaps_in(machine, share, way, states))

    def test_errors(self):
        for thing in odd_things() + NO_SHARES:
            with self.subTest(str(thing)[:40]):
                self.assertRaises(NoShare, never, H, thing, "up")
                self.assertRaises(NoShare, never, H, thing, None)
        for thing in odd_things() + NO_WAYS:
            with self.subTest(str(thing)[:40]):
                self.assertRaises(NoWay, never, H, (1, 2), thing)

    def test_example_e03(self):
        self.assertEqual((never(H, (4, 5), "up"), never(H, (7, 10), "up"), never(H, (4, 5), "down")), (True, False, False))


class Rule(unittest.TestCase):

    def due(self, machine, share, way):
        """The rule, word by word."""
        step = measure(machine, share, 0)
        found = []
        for number, one in enumerate(machine.events):
            if one[0] not in led_to(machine, 0):
                continue
            here = lead(machine, share, 0, one[0])
            rise = lift(share, one)
            if way == "up" and rise > 0:
                found.append((number, rise, step if here == 0 else step - here))
            if way == "down" and rise < 0:
                found.append((number, -rise, step if here == 0 else here))
        return found

    def test_against_its_words(self):
        balanced = 0
        for machine in [H, S, T, GREATEST, KNOTTED, LINKED] + random_machines(98, 200, 4, 8):
            for share in SHARES + GREAT_SHARES:
                for way in WAYS:
                    if not is_balanced(machine, share):
                        self.assertRaises(NotBalanced, rule, machine, share, way)
                        continue
                    balanced += 1
                    told = rule(machine, share, way)
                    self.assertEqual(told, self.due(machine, share, way))
                    self.assertTrue(type(told) is list and all(type(one) is tuple for one in told))
                    self.assertIs(never(machine, share, way), all(rise <= most for _, rise, most in told))
        self.assertGreater(balanced, 500)

    def test_by_hand(self):
        self.assertEqual(rule(H, (4, 5), "up"), [(0, 1, 1)])
        self.assertEqual(rule(H, (4, 5), "down"), [(1, 4, 1)])
        self.assertEqual(rule(H, (7, 10), "up"), [(0, 3, 1)])
        machine = Machine(2, ((0, 1, 1, 1), (1, 0, 1, 3), (1, 0, 1, -5)))
        self.assertEqual(rule(machine, (0, 1), "up"), [(0, 1, 4), (1, 3, 3)])
        self.assertEqual(rule(machine, (0, 1), "down"), [(2, 5, 1)])
        self.assertIs(never(machine, (0, 1), "up"), True)
        self.assertIs(never(machine, (0, 1), "down"), False)

    def test_events_that_nothing_reaches(self):
        machine = Machine(2, ((1, 0, 1, 9), (0, 0, 1, 1), (1, 1, 1, 9), (0, 0, 1, 0)))
        self.assertEqual(rule(machine, (1, 2), "up"), [(1, 1, 1)])
        self.assertEqual(rule(machine, (1, 2), "down"), [(3, 1, 1)])

    def test_not_balanced(self):
        for machine, share in (
            (H, (0, 1)), (H, (1, 1)), (H, (-1, 2)), (H, (3, 2)), (EMPTY, (1, 2)), (LINKED, (1, 2)), (KNOTTED, (0, 1)),
            (Machine(1, ()), (0, 1)),
        ):
            for way in WAYS:
                self.assertRaises(NotBalanced, rule, machine, share, way)

    def test_errors_in_their_order(self):
        for thing in odd_things() + NO_SHARES:
            with self.subTest(str(thing)[:40]):
                self.assertRaises(NoShare, rule, H, thing, "up")
                self.assertRaises(NoShare, rule, EMPTY, thing, None)
        for thing in odd_things() + NO_WAYS:
            with self.subTest(str(thing)[:40]):
                self.assertRaises(NoWay, rule, H, (1, 2), thing)
                self.assertRaises(NoWay, rule, EMPTY, (1, 2), thing)

    def test_new_lists(self):
        first = rule(S, (7, 2), "up")
        first.append(None)
        self.assertEqual(rule(S, (7, 2), "up"), first[:-1])
        self.assertEqual(S.events, tuple((0, 0, 1, points) for points in range(1, 6)))

    def test_main_fact_for_many_shares(self):
        for bottom in range(1, 30):
            for top in range(1, bottom):
                if gcd(top, bottom) == 1:
                    # Hits by throws: just what lacks one part of a whole cannot be leapt upwards.
                    self.assertIs(never(H, (top, bottom), "up"), bottom - top == 1)
                    self.assertIs(never(H, (top, bottom), "down"), top == 1)
                    self.assertEqual(Fraction(top, bottom) + Fraction(rule(H, (top, bottom), "up")[0][1], bottom), 1)


if __name__ == "__main__":
    unittest.main()
