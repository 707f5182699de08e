"""6.2: leaps behind just so many tries, and late ones."""

import random
import unittest
from fractions import Fraction
from math import gcd

from neverleapt.changes import bundled, parted, scaled, shifted
from neverleapt.errors import NoNumber, NoShare, NotBalanced, NoWay, TooMany
from neverleapt.laterow import even_row
from neverleapt.leaping import is_leap, late_leap, leap_behind
from neverleapt.machines import Machine, boards, ends_at, is_run
from neverleapt.phrases import spoken
from neverleapt.rings import ends, is_balanced, value
from neverleapt.verdicts import never
from tests.phrasesamples import HIT, MISS, event
from tests.samples import EMPTY, H, KNOTTED, LINKED, NO_SHARES, NO_WAYS, S, T, deep, odd_things, random_machines
from tests.slow import GREAT_SHARES, SHARES, lift
from tests.test_tables import GREATEST

WAYS = ("up", "down")
NO_INTEGERS = odd_things() + ["", "1", (), (1,), [1], deep(40)]


def least_behind(machine, share, way, most):
    """For each number of tries up to one the least leaping run with just so many ahead, by the least run to each state."""
    sign = 1 if way == "up" else -1
    least = [{} for _ in range(most + 1)]
    least[0][(0, 0)] = ()
    found = [None] * (most + 1)
    for tries, states in enumerate(least):
        # Of runs to the same standing with the same tries and points the least one goes on to the least ones.
        for (standing, points), run in states.items():
            ahead = sign * (share[1] * points - share[0] * tries)
            for number, one in enumerate(machine.events):
                if one[0] != standing:
                    continue
                longer = run + (number,)
                if tries and ahead < 0 < ahead + sign * lift(share, one):
                    found[tries] = min(found[tries] or longer, longer)
                if tries + one[2] <= most:
                    place = least[tries + one[2]]
                    state = (one[1], points + one[3])
                    place[state] = min(place.get(state, longer), longer)
    return found


class Behind(unittest.TestCase):

    def check(self, machine, share, way, tries, run):
        told = leap_behind(machine, share, way, tries)
        self.assertEqual(told, run)
        if run is not None:
            self.assertIs(is_leap(machine, share, way, told), True)
            self.assertEqual(boards(machine, told)[-2][0], tries)

    def test_against_all_runs(self):
        source = random.Random(121)
        some = 0
        for machine in [H, S, T, EMPTY, LINKED, KNOTTED] + random_machines(122, 120, 4, 6, 4, 6):
            for share in source.sample(SHARES, 3):
                for way in WAYS:
                    for tries, run in list(enumerate(least_behind(machine, share, way, 16)))[1:]:
                        self.check(machine, share, way, tries, run)
                        some += run is not None
        self.assertGreater(some, 1000)

    def test_some_tens_of_tries(self):
        for machine in [H, T] + random_machines(123, 12, 3, 4, 5, 5):
            for share in ((1, 2), (7, 10), (-2, 3)):
                for way in WAYS:
                    due = least_behind(machine, share, way, 50)
                    for tries in (17, 23, 30, 41, 49, 50):
                        self.check(machine, share, way, tries, due[tries])

    def test_bounds(self):
        for machine in (H, T, S, EMPTY, GREATEST):
            for way in WAYS:
                for tries in (0, -1, 301, 302, 10 ** 39, -10 ** 39):
                    self.assertRaises(NoNumber, leap_behind, machine, (7, 10), way, tries)
                leap_behind(machine, (7, 10), way, 1)
                told = leap_behind(machine, (7, 10), way, 300)
                if told is not None:
                    self.assertIs(is_leap(machine, (7, 10), way, told), True)
                    self.assertEqual(boards(machine, told)[-2][0], 300)
        # Of 300 throws just 210 hits stand below the one share and go above by a hit, 211 above the other and below.
        self.check(H, (1401, 2000), "up", 300, (0,) * 210 + (1,) * 90 + (0,))
        self.check(H, (351, 500), "down", 300, (0,) * 211 + (1,) * 89 + (1,))
        self.check(H, (1401, 2000), "down", 300, None)

    def test_great_shares(self):
        for machine in [H, GREATEST, KNOTTED] + random_machines(124, 30, 4, 6):
            for share in GREAT_SHARES:
                for way in WAYS:
                    due = least_behind(machine, share, way, 6)
                    for tries in range(1, 7):
                        self.check(machine, share, way, tries, due[tries])

    def test_greatest_machines(self):
        crowd = Machine(12, tuple((k % 12, (7 * k + k // 12) % 12, 1, (97 * k) % 801 - 400) for k in range(30)))
        for share in ((0, 1), (10 ** 29 + 1, 10 ** 29)):
            for way in WAYS:
                told = leap_behind(crowd, share, way, 300)
                self.assertIs(is_leap(crowd, share, way, told), True)
                self.assertEqual(boards(crowd, told)[-2][0], 300)

    def test_returned_machines(self):
        base = Machine(2, ((0, 1, 2, 3), (1, 0, 3, -4), (1, 1, 1, 2), (0, 0, 2, -3)))
        for share in SHARES[:5]:
            for way in WAYS:
                for tries in (3, 8, 20):
                    due = leap_behind(base, share, way, tries)
                    there = (share[0] + 1000 * share[1], share[1])
                    self.check(shifted(base, 1000), there, way, tries, due)
                    great = scaled(scaled(scaled(base, 1000), 1000), 1000)
                    common = gcd(10 ** 9 * share[0], share[1])
                    there = (10 ** 9 * share[0] // common, share[1] // common)
                    self.check(great, there, way, tries, due)
        machine = parted(parted(base, 0, 1, 10 ** 39), 1, 2, 7 - 10 ** 39)
        for share in SHARES[:4]:
            for way in WAYS:
                for tries, run in list(enumerate(least_behind(machine, share, way, 12)))[1:]:
                    self.check(machine, share, way, tries, run)
        machine = spoken(("again", ("either", (HIT, ("row", (MISS, MISS, event(2, 3)))))))
        for machine in (machine, bundled(T, 4), bundled(S, 2)):
            for way in WAYS:
                due = least_behind(machine, (1, 3), way, 14)
                for tries in range(1, 15):
                    self.check(machine, (1, 3), way, tries, due[tries])

    def test_errors_in_their_order(self):
        for thing in odd_things() + NO_SHARES:
            with self.subTest(str(thing)[:40]):
                self.assertRaises(NoShare, leap_behind, H, thing, "up", 1)
                self.assertRaises(NoShare, leap_behind, H, thing, None, None)
        for thing in odd_things() + NO_WAYS:
            with self.subTest(str(thing)[:40]):
                self.assertRaises(NoWay, leap_behind, H, (1, 2), thing, 1)
                self.assertRaises(NoWay, leap_behind, H, (1, 2), thing, 0)
        for thing in NO_INTEGERS:
            with self.subTest(str(thing)[:40]):
                self.assertRaises(NoNumber, leap_behind, H, (1, 2), "up", thing)


class Late(unittest.TestCase):

    def check(self, machine, share, way, tries):
        told = late_leap(machine, share, way, tries)
        self.assertIs(told is None, never(machine, share, way))
        if told is not None:
            self.assertIs(type(told), tuple)
            self.assertIs(is_leap(machine, share, way, told), True)
            self.assertGreaterEqual(boards(machine, told)[-2][0], tries)

    def test_as_late_as_asked(self):
        balanced = 0
        for machine in [H, S, T] + random_machines(125, 150, 4, 7, 4, 6):
            for share in SHARES:
                if not is_balanced(machine, share):
                    for way in WAYS:
                        self.assertRaises(NotBalanced, late_leap, machine, share, way, 1)
                    continue
                balanced += 1
                for way in WAYS:
                    for tries in (0, 1, 37):
                        self.check(machine, share, way, tries)
        self.assertGreater(balanced, 150)

    def test_thousand_tries(self):
        for machine in [H, T, S] + random_machines(126, 40, 4, 6, 40, 10):
            for share in ((1, 2), (7, 10), (-1, 3), (7, 2)):
                if is_balanced(machine, share):
                    for way in WAYS:
                        for tries in (999, 1000):
                            self.check(machine, share, way, tries)

    def test_never_too_many_where_it_may_not(self):
        # Bottoms up to 10, four events, points from -10 to 10, tries up to 40.
        source = random.Random(127)
        balanced = 0
        for _ in range(250):
            standings = source.choice([1, 1, 2, 3, 4])
            events = [(k, (k + 1) % standings) for k in range(standings)]
            while len(events) < 4:
                events.append((source.randrange(standings), source.randrange(standings)))
            machine = Machine(standings, tuple(
                pair + (source.randint(33, 40), source.choice([10, -10, 9, -9, source.randint(-10, 10)])) for pair in events
            ))
            low, high = (Fraction(*share) for share in ends(machine, 0))
            for bottom in (source.randint(1, 10), 9, 10):
                for top in range(int(low * bottom), int(high * bottom) + 1):
                    if gcd(top, bottom) == 1 and low < Fraction(top, bottom) < high:
                        balanced += 1
                        for way in WAYS:
                            self.check(machine, (top, bottom), way, 1000)
        self.assertGreater(balanced, 100)

    def test_put_off(self):
        # The first leap is near, but behind it the next one is too far away to be looked for.
        self.check(H, (999, 1000), "down", 0)
        self.check(H, (999, 1000), "down", 40)
        self.check(H, (999, 1000), "down", 1000)
        self.check(H, (1, 1000), "up", 1000)

    def test_rows_that_change_nothing(self):
        machines = [H, S, T, GREATEST] + random_machines(128, 200, 4, 7, 4, 6)
        tried = 0
        for machine in machines:
            for share in SHARES:
                if not is_balanced(machine, share):
                    continue
                tried += 1
                for tries in (0, 1, 60):
                    row = even_row(machine, share, tries)
                    self.assertIs(is_run(machine, row), True)
                    self.assertEqual((ends_at(machine, row), value(machine, share, row)), (0, 0))
                    self.assertGreaterEqual(boards(machine, row)[-1][0] if row else 0, tries)
        self.assertGreater(tried, 200)
        # A walk whose lift is no multiple of what both rings have in common is gone several times.
        machine = Machine(2, ((0, 0, 1, 6), (1, 1, 1, -4), (0, 1, 1, 2), (1, 0, 1, 1), (1, 0, 1, -9)))
        row = even_row(machine, (0, 1), 1)
        self.assertEqual((ends_at(machine, row), value(machine, (0, 1), row)), (0, 0))
        self.assertGreater(row.count(2), 1)

    def test_farther_than_can_be_told(self):
        share = (10 ** 29 - 3, 10 ** 29)
        with self.assertRaises(TooMany) as caught:
            late_leap(H, share, "up", 0)
        self.assertEqual(caught.exception.most, 100000)
        with self.assertRaises(TooMany) as caught:
            late_leap(H, share, "down", 50)
        self.assertEqual(caught.exception.most, 100000)
        self.check(H, share, "down", 0)

    def test_great_shares(self):
        source = random.Random(129)
        late = 0
        for machine in [H, S, T, GREATEST] + random_machines(130, 30, 4, 8, 40, 400):
            for top, bottom in GREAT_SHARES[:4]:
                for share in ((top, bottom), (top + source.randint(-3, 3) * bottom, bottom)):
                    if is_balanced(machine, share):
                        for way in WAYS:
                            try:
                                self.check(machine, share, way, 40)
                                late += 1
                            except TooMany as error:
                                self.assertEqual(error.most, 100000)
        self.assertGreater(late, 30)

    def test_none(self):
        for tries in (0, 5, 1000):
            self.assertIsNone(late_leap(H, (4, 5), "up", tries))
            self.assertIsNone(late_leap(H, (1, 5), "down", tries))

    def test_returned_machines(self):
        self.check(scaled(H, 1000), (700, 1), "up", 300)
        self.check(shifted(T, -1000), (-1999, 2), "down", 300)
        self.check(bundled(H, 3), (7, 10), "up", 300)
        machine = parted(Machine(1, ((0, 0, 2, 1), (0, 0, 1, 0))), 0, 1, 10 ** 39)
        self.check(machine, (1, 4), "up", 100)
        self.check(machine, (1, 4), "down", 100)

    def test_errors_in_their_order(self):
        for thing in odd_things() + NO_SHARES:
            with self.subTest(str(thing)[:40]):
                self.assertRaises(NoShare, late_leap, H, thing, "up", 1)
                self.assertRaises(NoShare, late_leap, EMPTY, thing, None, None)
        for thing in odd_things() + NO_WAYS:
            with self.subTest(str(thing)[:40]):
                self.assertRaises(NoWay, late_leap, H, (1, 2), thing, 1)
                self.assertRaises(NoWay, late_leap, EMPTY, (1, 2), thing, None)
        for thing in NO_INTEGERS + [-1, 1001, 10 ** 39]:
            with self.subTest(str(thing)[:40]):
                self.assertRaises(NoNumber, late_leap, H, (1, 2), "up", thing)
                self.assertRaises(NoNumber, late_leap, H, (4, 5), "up", thing)
                for machine, share in ((EMPTY, (1, 2)), (H, (1, 1)), (LINKED, (1, 2))):
                    self.assertRaises(NotBalanced, late_leap, machine, share, "up", thing)

    def test_what_was_passed_stays(self):
        events = T.events
        for way in WAYS:
            self.assertEqual(late_leap(T, (7, 10), way, 77), late_leap(T, (7, 10), way, 77))
            self.assertEqual(leap_behind(T, (7, 10), way, 77), leap_behind(T, (7, 10), way, 77))
        self.assertEqual(T.events, events)


if __name__ == "__main__":
    unittest.main()
