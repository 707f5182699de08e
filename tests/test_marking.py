"""9.1 and 9.2: marks, and the last leap over one."""

import math
import random
import unittest
from fractions import Fraction

from neverleapt.changes import bundled, mirrored, parted, scaled, shifted
from neverleapt.errors import NoHow, NoMark, NoPlaces, NoRun, NoShare, NoWay, TooMany
from neverleapt.machines import Machine, boards, is_run
from neverleapt.marking import last_leap, last_leap_run, mark, marks
from neverleapt.phrases import spoken
from tests.phrasesamples import HIT, MISS, event
from tests.samples import EMPTY, H, KNOTTED, LINKED, NO_SHARES, NO_WAYS, S, T, deep, led_to, odd_things, random_machines
from tests.slow import GREAT_SHARES
from tests.test_leaping import NO_RUNS

HOWS = ("down", "up", "near", "even")
WAYS = ("up", "down")
NO_INTEGERS = odd_things() + ["", "1", (), (1,), [1], deep(40)]
NO_PLACES = NO_INTEGERS + [-1, 7, 10 ** 39, -10 ** 39]
NO_HOWS = odd_things() + ["", "Down", "near ", "evens", "nearest", "left", 0, 1, ("up",), ["down"], b"even", HOWS, deep(40)]


def mark_of(fraction, places, how):
    units = fraction * 10 ** places
    if how == "down":
        return math.floor(units)
    if how == "up":
        return math.ceil(units)
    return math.floor(units + Fraction(1, 2)) if how == "near" else round(units)


class Mark(unittest.TestCase):

    def check(self, fraction, places, how):
        told = mark((fraction.numerator, fraction.denominator), places, how)
        self.assertEqual(told, mark_of(fraction, places, how))
        self.assertIs(type(told), int)

    def test_each_how(self):
        source = random.Random(161)
        for places in range(7):
            for how in HOWS:
                for _ in range(150):
                    self.check(Fraction(source.randint(-300, 300), source.randint(1, 60)), places, how)

    def test_halves(self):
        for places in range(7):
            for how in HOWS:
                for number in range(-9, 10):
                    self.check(Fraction(number, 2 * 10 ** places), places, how)
                    self.check(Fraction(number, 2 * 10 ** places) + Fraction(1, 10 ** 29), places, how)
                    self.check(Fraction(number, 2 * 10 ** places) - Fraction(1, 10 ** 29), places, how)

    def test_by_hand(self):
        for share, places, told in (
            ((1, 2), 0, (0, 1, 1, 0)), ((3, 2), 0, (1, 2, 2, 2)), ((5, 2), 0, (2, 3, 3, 2)), ((-1, 2), 0, (-1, 0, 0, 0)),
            ((-3, 2), 0, (-2, -1, -1, -2)), ((0, 1), 6, (0, 0, 0, 0)), ((2, 3), 1, (6, 7, 7, 7)), ((-2, 3), 1, (-7, -6, -7, -7)),
            ((1, 4), 1, (2, 3, 3, 2)), ((3, 4), 1, (7, 8, 8, 8)), ((1, 3), 6, (333333, 333334, 333333, 333333)),
            ((7, 1), 3, (7000, 7000, 7000, 7000)),
        ):
            self.assertEqual(tuple(mark(share, places, how) for how in HOWS), told)

    def test_great_shares(self):
        for share in GREAT_SHARES:
            for places in range(7):
                for how in HOWS:
                    self.check(Fraction(*share), places, how)

    def test_errors_in_their_order(self):
        for thing in odd_things() + NO_SHARES:
            with self.subTest(str(thing)[:40]):
                self.assertRaises(NoShare, mark, thing, 1, "up")
                self.assertRaises(NoShare, mark, thing, None, None)
        for thing in NO_PLACES:
            with self.subTest(str(thing)[:40]):
                self.assertRaises(NoPlaces, mark, (1, 2), thing, "up")
                self.assertRaises(NoPlaces, mark, (1, 2), thing, None)
        for thing in NO_HOWS:
            with self.subTest(str(thing)[:40]):
                self.assertRaises(NoHow, mark, (1, 2), 0, thing)


class Marks(unittest.TestCase):

    def test_of_runs(self):
        run = (0, 1, 1, 0, 0, 1, 0)
        for machine in (H, S, scaled(H, 7), mirrored(shifted(H, 3))):
            for places in range(7):
                for how in HOWS:
                    told = marks(machine, run, places, how)
                    self.assertEqual(told, [
                        mark_of(Fraction(points, tries), places, how) for tries, points in boards(machine, run)])
                    self.assertIs(type(told), list)
        self.assertEqual(marks(H, run, 1, "down"), [10, 5, 3, 5, 6, 5, 5])
        self.assertEqual(marks(H, (), 1, "down"), [])

    def test_errors_in_their_order(self):
        for thing in odd_things() + NO_RUNS:
            with self.subTest(str(thing)[:40]):
                self.assertRaises(NoRun, marks, H, thing, 1, "up")
                self.assertRaises(NoRun, marks, H, thing, None, None)
        for thing in NO_PLACES:
            with self.subTest(str(thing)[:40]):
                self.assertRaises(NoPlaces, marks, H, (0, 1), thing, "up")
                self.assertRaises(NoPlaces, marks, H, (), thing, None)
        for thing in NO_HOWS:
            with self.subTest(str(thing)[:40]):
                self.assertRaises(NoHow, marks, H, (0, 1), 0, thing)
                self.assertRaises(NoHow, marks, H, (), 0, thing)

    def test_new_lists(self):
        first = marks(H, (0, 1), 2, "near")
        first.append(None)
        self.assertEqual(marks(H, (0, 1), 2, "near"), first[:-1])


def bound_of(machine, places):
    """W * R * 10 ** places."""
    slopes = [Fraction(one[3], one[2]) for one in machine.events] or [Fraction(0)]
    return max([one[2] for one in machine.events], default=0) * (max(slopes) - min(slopes)) * 10 ** places


def last_leaps(machine, places, how, most):
    """A dict of (mark, way) with the most tries, up to so many, ahead of an event that leaps over it, by all boards."""
    layers = [{(0, 0)}] + [set() for _ in range(most)]
    found = {}
    for tries, states in enumerate(layers):
        for standing, points in states:
            for one in machine.events:
                if one[0] != standing:
                    continue
                if tries + one[2] <= most:
                    layers[tries + one[2]].add((one[1], points + one[3]))
                if tries:
                    ahead = mark_of(Fraction(points, tries), places, how)
                    behind = mark_of(Fraction(points + one[3], tries + one[2]), places, how)
                    for told in range(ahead + 1, behind):
                        found[told, "up"] = tries
                    for told in range(behind + 1, ahead):
                        found[told, "down"] = tries
    return found


class LastLeap(unittest.TestCase):

    def check(self, machine, places, how, told, way, tries):
        self.assertEqual(last_leap(machine, places, how, told, way), tries)
        run = last_leap_run(machine, places, how, told, way)
        if tries is None:
            self.assertIsNone(run)
            return
        self.assertIs(type(run), tuple)
        self.assertIs(is_run(machine, run), True)
        self.assertEqual(boards(machine, run)[-2][0], tries)
        ahead, behind = marks(machine, run, places, how)[-2:]
        self.assertTrue(ahead < told < behind if way == "up" else ahead > told > behind)

    def check_all(self, machine, places, how):
        """Check all marks that are leapt, up to a little beyond the bound of the fourth fact, and others; tell how many."""
        bound = bound_of(machine, places)
        due = last_leaps(machine, places, how, int(bound) + 6)
        self.assertTrue(all(tries <= bound for tries in due.values()))
        leapt = {told for told, _ in due}
        for told in sorted(leapt)[:12] + sorted(leapt)[-12:] + [0, 1, min(leapt, default=0) - 1, max(leapt, default=0) + 1]:
            for way in WAYS:
                self.check(machine, places, how, told, way, due.get((told, way)))
        return len(leapt)

    def test_against_all_runs(self):
        leapt = 0
        for machine in [H, T, S, LINKED, EMPTY] + random_machines(162, 150, 4, 6, 3, 4):
            for how in HOWS:
                for places in (0, 1):
                    if bound_of(machine, places) <= 40:
                        leapt += self.check_all(machine, places, how)
        self.assertGreater(leapt, 200)

    def test_more_places(self):
        source = random.Random(163)
        for places in (1, 2):
            for how in HOWS:
                self.check_all(H, places, how)
                slow = Machine(2, ((0, 1, 2, 1), (1, 0, 1, 1), (1, 1, 1, source.choice([0, 1]))))
                self.check_all(slow, places, how)
        for how in HOWS:
            flat = Machine(1, ((0, 0, 40, 1), (0, 0, 39, 1), (0, 0, 40, 1)))
            self.check_all(flat, 3, how)
            self.check_all(flat, 4, how)

    def test_the_first_event_leaps_over_none(self):
        # Far from the mark at once, and behind it never across: with one event nothing can leap.
        for how in HOWS:
            for way in WAYS:
                self.check(Machine(1, ((0, 0, 1, 9),)), 0, how, 5, way, None)
                self.check(Machine(2, ((0, 1, 1, 9), (1, 1, 1, 8))), 0, how, 5, way, None)
        self.check(Machine(2, ((0, 1, 1, 9), (1, 1, 1, 0))), 0, "down", 5, "down", 1)
        self.check(Machine(2, ((0, 1, 1, 9), (1, 1, 1, 0))), 0, "down", 8, "down", 1)
        self.check(Machine(2, ((0, 1, 1, 9), (1, 1, 1, 0))), 0, "down", 9, "down", None)

    def test_without_events_or_rings(self):
        for places in range(7):
            for how in HOWS:
                for way in WAYS:
                    for told in (0, 1, -10 ** 39):
                        self.check(EMPTY, places, how, told, way, None)
                        self.check(Machine(1, ((0, 0, 7, 7),)), places, how, told, way, None)
        chain = Machine(3, ((0, 1, 1, 0), (1, 2, 1, 9)))
        for how in HOWS:
            self.check(chain, 0, how, 2, "up", 1)
            self.check(chain, 0, how, 2, "down", None)

    def test_just_300(self):
        for machine, places in (
            (Machine(1, ((0, 0, 1, 300), (0, 0, 1, 0))), 0), (Machine(1, ((0, 0, 3, 0), (0, 0, 1, -100))), 0),
            (Machine(1, ((0, 0, 40, 3), (0, 0, 40, 0))), 2), (Machine(2, ((0, 0, 1, 3), (1, 1, 1, 0))), 2),
        ):
            self.assertEqual(bound_of(machine, places), 300)
            for told in (1, -50, 10 ** 39):
                for way in WAYS:
                    last_leap(machine, places, "near", told, way)
                    last_leap_run(machine, places, "near", told, way)
        for machine, places in (
            (Machine(1, ((0, 0, 1, 301), (0, 0, 1, 0))), 0), (Machine(1, ((0, 0, 40, 301), (0, 0, 39, 0))), 0),
            (Machine(1, ((0, 0, 40, 0), (0, 0, 39, -293))), 0), (Machine(2, ((0, 0, 1, 3), (1, 1, 1, 0), (1, 1, 2, 3))), 2),
            (H, 3), (Machine(1, ((0, 0, 1, 400), (0, 0, 1, -400))), 6),
            (parted(Machine(1, ((0, 0, 2, 1),)), 0, 1, 10 ** 39), 0),
        ):
            self.assertGreater(bound_of(machine, places), 300)
            for function in (last_leap, last_leap_run):
                with self.assertRaises(TooMany) as caught:
                    function(machine, places, "near", 1, "up")
                self.assertEqual(caught.exception.most, 300)

    def test_the_most_tries_there_are(self):
        machine = Machine(1, ((0, 0, 1, 300), (0, 0, 1, 0)))
        due = last_leaps(machine, 0, "down", 303)
        for told in (0, 1, 100, 150, 298, 299):
            for way in WAYS:
                self.check(machine, 0, "down", told, way, due.get((told, way)))

    def test_both_ways(self):
        # Turned round, what is rounded down is rounded up.
        for machine in random_machines(164, 60, 3, 5, 3, 4):
            if bound_of(machine, 0) > 300:
                continue
            for told in (-1, 0, 2):
                for how, other in (("down", "up"), ("even", "even")):
                    for way in WAYS:
                        turned = "down" if way == "up" else "up"
                        self.assertEqual(
                            last_leap(machine, 0, how, told, way), last_leap(mirrored(machine), 0, other, -told, turned))

    def test_greatest_machines(self):
        machine = Machine(12, tuple((k % 12, (7 * k + k // 12) % 12, 40, 1000 * k % 301) for k in range(30)))
        self.assertLessEqual(bound_of(machine, 0), 300)
        self.assertEqual(led_to(machine, 0), set(range(12)))
        for how in HOWS:
            self.check_all(machine, 0, how)
        machine = Machine(12, tuple((k % 12, (7 * k + k // 12) % 12, 1, 77 * k % 301 - 150) for k in range(30)))
        self.assertLessEqual(bound_of(machine, 0), 300)
        for way in WAYS:
            tries = last_leap(machine, 0, "even", 7, way)
            self.check(machine, 0, "even", 7, way, tries)
            self.assertGreater(tries, 100)

    def test_returned_machines(self):
        for machine in (
            shifted(H, 1000), scaled(H, 20), bundled(T, 2), bundled(H, 4), parted(Machine(1, ((0, 0, 3, 1), (0, 0, 1, 1))), 0, 1, 1),
            spoken(("again", ("either", (HIT, ("row", (MISS, MISS, event(2, 3))))))), struck_knot(),
        ):
            for how in HOWS:
                self.check_all(machine, 0, how)

    def test_events_that_nothing_reaches(self):
        # They count for the bound, though no run has them.
        machine = Machine(2, ((0, 0, 1, 1), (0, 0, 1, 0), (1, 1, 1, 301)))
        self.assertRaises(TooMany, last_leap, machine, 0, "down", 3, "up")
        machine = Machine(2, ((0, 0, 1, 1), (0, 0, 1, 0), (1, 1, 1, 30)))
        for how in HOWS:
            self.check_all(machine, 1, how)

    def test_errors_in_their_order(self):
        for function in (last_leap, last_leap_run):
            for thing in NO_PLACES:
                with self.subTest(str(thing)[:40]):
                    self.assertRaises(NoPlaces, function, H, thing, "up", 1, "up")
                    self.assertRaises(NoPlaces, function, H, thing, None, None, None)
            for thing in NO_HOWS:
                with self.subTest(str(thing)[:40]):
                    self.assertRaises(NoHow, function, H, 6, thing, 1, "up")
                    self.assertRaises(NoHow, function, H, 6, thing, None, None)
            for thing in NO_INTEGERS:
                with self.subTest(str(thing)[:40]):
                    self.assertRaises(NoMark, function, H, 6, "near", thing, "up")
                    self.assertRaises(NoMark, function, H, 6, "near", thing, None)
            for thing in odd_things() + NO_WAYS:
                with self.subTest(str(thing)[:40]):
                    self.assertRaises(NoWay, function, H, 6, "near", 1, thing)
            self.assertRaises(TooMany, function, H, 6, "near", 1, "up")

    def test_nothing_is_changed(self):
        events = KNOTTED.events
        for way in WAYS:
            self.assertEqual(last_leap(KNOTTED, 0, "up", 1, way), last_leap(KNOTTED, 0, "up", 1, way))
        self.assertEqual(KNOTTED.events, events)

    def test_example_e11(self):
        self.assertEqual(last_leap(H, 1, "down", 3, "up"), 4)


def struck_knot():
    """A machine with several knots, one of which is left for good."""
    return Machine(3, ((0, 0, 1, 2), (0, 0, 2, -1), (0, 1, 1, 0), (1, 2, 1, 3), (2, 1, 1, 1), (2, 2, 2, 5)))


if __name__ == "__main__":
    unittest.main()
