"""10.1 and 10.2: which events to strike, or how many to bundle, so that nothing leaps; 1.4: what striking does."""

import random
import unittest
from itertools import combinations
from math import gcd

from neverleapt.changes import bundled, parted, struck
from neverleapt.errors import NoNumber, NoShare, NoWay, TooMany
from neverleapt.machines import Machine, is_run
from neverleapt.mends import fewest_struck, is_mend, least_shown
from neverleapt.phrases import spoken
from neverleapt.verdicts import never
from tests.likeness import likenesses
from tests.phrasesamples import HIT, MISS, event
from tests.samples import (
    EMPTY, H, KNOTTED, LINKED, NO_SHARES, NO_WAYS, S, T, deep, knotted_machines, odd_things, random_machines, runs_of,
)
from tests.slow import GREAT_SHARES, SHARES, lift, states_of

WAYS = ("up", "down")
GREAT = Machine(12, tuple(
    (k % 12, (5 * k + 1) % 12, 1 + 7 * k % 40, 400 - 37 * k % 801) for k in range(30)))


def one_standing(source, many, tries, points):
    return Machine(1, tuple((0, 0, source.randint(1, tries), source.randint(-points, points)) for _ in range(many)))


def leaps_with(machine, share, way, left):
    """Whether some run of the events that are left leaps, the machine being of one standing."""
    sign = 1 if way == "up" else -1
    lifts = [sign * lift(share, machine.events[number]) for number in left]
    step = 0
    for one in lifts:
        step = gcd(step, one)
    return any(one < 0 for one in lifts) and any(one > step for one in lifts)


def first_mend(total, leapt):
    """The answer, found by going through all lots of events, leapt telling whether what is left leaps."""
    for many in range(total + 1):
        for events in combinations(range(total), many):
            if not leapt([number for number in range(total) if number not in events]):
                return (many, events)
    return None


class StruckRuns(unittest.TestCase):

    def test_just_the_runs_without_them(self):
        source = random.Random(201)
        for machine in [H, T, S, KNOTTED, LINKED, EMPTY] + random_machines(202, 60, 4, 6):
            total = len(machine.events)
            runs = runs_of(machine, 4)
            for many in sorted({0, total, source.randint(0, total), source.randint(0, total)}):
                events = tuple(sorted(source.sample(range(total), many)))
                left = [number for number in range(total) if number not in events]
                due = {tuple(left.index(k) for k in run) for run in runs if not set(run) & set(events)}
                found = runs_of(struck(machine, events), 4)
                self.assertEqual(len(found), len(set(found)))
                self.assertEqual(set(found), due)
                self.assertTrue(all(is_run(struck(machine, events), run) for run in due))


class FewestStruck(unittest.TestCase):

    def check(self, machine, share, way, due):
        told = fewest_struck(machine, share, way)
        self.assertIs(type(told), tuple)
        self.assertEqual(told, due)
        self.assertEqual((type(told[0]), type(told[1])), (int, tuple))
        self.assertIs(is_mend(machine, share, way, told[1]), True)

    def test_one_standing_against_all_lots(self):
        source = random.Random(203)
        found = set()
        for round_ in range(120):
            machine = one_standing(source, source.randint(0, 7), *source.choice([(1, 1), (3, 4), (4, 9), (40, 400)]))
            for share in source.sample(SHARES + GREAT_SHARES, 3):
                for way in WAYS:
                    due = first_mend(len(machine.events), lambda left: leaps_with(machine, share, way, left))
                    self.check(machine, share, way, due)
                    found.add(due[0])
        self.assertTrue({0, 1, 2, 3} <= found)

    def test_twelve_events(self):
        source = random.Random(204)
        for tries, points in ((1, 1), (2, 5), (4, 6), (40, 400), (1, 400)):
            machine = one_standing(source, 12, tries, points)
            for share in ((0, 1), (1, 2), (-7, 10), GREAT_SHARES[0]):
                for way in WAYS:
                    due = first_mend(12, lambda left: leaps_with(machine, share, way, left))
                    self.check(machine, share, way, due)

    def test_two_and_three_standings(self):
        source = random.Random(205)
        found = set()
        for machine in [T] + random_machines(206, 80, 3, 6, 3, 3) + knotted_machines(207, 6):
            if len(machine.events) > 7:
                continue
            for share in source.sample(SHARES, 2):
                for way in WAYS:
                    sign = 1 if way == "up" else -1

                    def leapt(left):
                        kept = struck(machine, tuple(k for k in range(len(machine.events)) if k not in left))
                        return any(
                            one[0] == standing and sign * number < 0 < sign * (number + lift(share, one))
                            for standing, number in states_of(kept, share, 120) for one in kept.events)

                    due = first_mend(len(machine.events), leapt)
                    self.check(machine, share, way, due)
                    found.add(due[0])
        self.assertTrue({0, 1, 2} <= found)

    def test_none_just_where_never(self):
        for machine in [H, S, T, EMPTY] + random_machines(208, 60, 3, 7):
            for share in SHARES[:6]:
                for way in WAYS:
                    told = fewest_struck(machine, share, way)
                    self.assertEqual(told == (0, ()), never(machine, share, way))
                    self.assertEqual(told[0], len(told[1]))

    def test_by_hand(self):
        self.check(EMPTY, (1, 2), "up", (0, ()))
        self.check(H, (4, 5), "up", (0, ()))
        self.check(H, (4, 5), "down", (1, (0,)))
        # Steps by 2 leap with what makes odd numbers: either the one thing is struck or the two others.
        machine = Machine(1, ((0, 0, 1, 2), (0, 0, 1, 2), (0, 0, 1, -1), (0, 0, 1, -2)))
        self.check(machine, (0, 1), "up", (1, (2,)))
        machine = Machine(1, ((0, 0, 1, 2), (0, 0, 1, -1), (0, 0, 1, 2), (0, 0, 1, -1)))
        self.check(machine, (0, 1), "up", (2, (0, 2)))
        # What is not reached need not be struck.
        machine = Machine(3, ((1, 0, 1, 2), (1, 1, 1, -1), (0, 2, 1, -1), (2, 0, 1, 2)))
        self.check(machine, (0, 1), "up", (1, (2,)))

    def test_example_e12(self):
        self.check(H, (7, 10), "up", (1, (0,)))

    def test_thirteen_events(self):
        source = random.Random(209)
        machine = one_standing(source, 13, 3, 5)
        for wrong in (machine, GREAT, bundled(S, 3)):
            with self.assertRaises(TooMany) as caught:
                fewest_struck(wrong, (1, 2), "up")
            self.assertEqual(caught.exception.most, 12)
        twelve = struck(machine, (3,))
        self.check(twelve, (1, 2), "up", first_mend(12, lambda left: leaps_with(twelve, (1, 2), "up", left)))
        # Many events that nothing leaps are too many, too.
        self.assertRaises(TooMany, fewest_struck, Machine(1, ((0, 0, 1, 1),) * 13), (0, 1), "up")

    def test_errors_in_their_order(self):
        many = Machine(1, ((0, 0, 1, 1),) * 13)
        for share in NO_SHARES + odd_things():
            for machine in (H, many):
                self.assertRaises(NoShare, fewest_struck, machine, share, None)
        for way in NO_WAYS + odd_things():
            for machine in (H, many):
                self.assertRaises(NoWay, fewest_struck, machine, (1, 2), way)

    def test_likenesses(self):
        source = random.Random(210)
        for machine in [H, T, S] + [one_standing(source, 6, 3, 4) for _ in range(15)] + random_machines(211, 15, 2, 6):
            for way in WAYS:
                share = source.choice(SHARES)
                told = fewest_struck(machine, share, way)
                for name, other, changed, turned, names in likenesses(machine, share, way, source.random()):
                    found = fewest_struck(other, changed, turned)
                    if name == "reordered":
                        self.assertEqual(found[0], told[0])
                        self.assertTrue(is_mend(machine, share, way, tuple(sorted(names.index(k) for k in found[1]))))
                        self.assertTrue(is_mend(other, changed, turned, tuple(sorted(names[k] for k in told[1]))))
                    else:
                        self.assertEqual(found, told)


class IsMend(unittest.TestCase):

    def test_against_never(self):
        source = random.Random(212)
        seen = {True: 0, False: 0}
        for machine in [H, S, T, KNOTTED, LINKED] + random_machines(213, 50, 4, 9):
            total = len(machine.events)
            for share in SHARES[:5]:
                for way in WAYS:
                    events = tuple(sorted(source.sample(range(total), source.randint(0, total))))
                    told = is_mend(machine, share, way, events)
                    self.assertIs(told, never(struck(machine, events), share, way))
                    seen[told] += 1
                    self.assertIs(is_mend(machine, share, way, tuple(range(total))), True)
        self.assertGreater(min(seen.values()), 40)

    def test_more_than_twelve_events(self):
        for share in [(1, 3)] + GREAT_SHARES:
            for way in WAYS:
                self.assertIs(is_mend(GREAT, share, way, tuple(range(30))), True)
                self.assertIs(is_mend(GREAT, share, way, ()), never(GREAT, share, way))

    def test_what_is_none(self):
        wrong = [
            [], [0], [0, 1], (1, 0), (0, 0), (0, 1, 1), (2,), (-1,), (0, 2), (-1, 0), (10 ** 39,), (True,), (False,),
            (0, True), (None,), ("0",), ((0,),), 0, 1, "", "0", {}, {0: 0}, range(2), (deep(38),), deep(40), ([0],),
        ]
        # (0, 1, 1, None) and the like stand among the odd things; the empty tuple and (0,) do not.
        for thing in wrong + odd_things():
            self.assertIs(is_mend(H, (7, 10), "up", thing), False, str(thing)[:40])
        for thing in ((0,), (1,), (0, 1)):
            self.assertIs(is_mend(H, (7, 10), "up", thing), True)
        self.assertIs(is_mend(H, (7, 10), "up", ()), False)
        self.assertIs(is_mend(EMPTY, (7, 10), "up", (0,)), False)

    def test_errors_in_their_order(self):
        for share in NO_SHARES + odd_things():
            self.assertRaises(NoShare, is_mend, H, share, None, None)
        for way in NO_WAYS + odd_things():
            self.assertRaises(NoWay, is_mend, H, (1, 2), way, None)


class LeastShown(unittest.TestCase):

    def due(self, machine, share, way, most):
        """What never tells of the bundled machines, one by one; TooMany where they cannot be made."""
        for many in range(1, most + 1):
            if never(bundled(machine, many), share, way):
                return many
        return None

    def test_against_never_of_bundled(self):
        seen = {}
        for machine in [H, S, T, EMPTY] + random_machines(214, 60, 3, 6):
            for share in SHARES:
                for way in WAYS:
                    for most in (1, 2, 3, 4):
                        try:
                            due = self.due(machine, share, way, most)
                        except TooMany as error:
                            with self.assertRaises(TooMany) as caught:
                                least_shown(machine, share, way, most)
                            self.assertEqual(caught.exception.most, error.most)
                            due = "many"
                        else:
                            self.assertEqual(least_shown(machine, share, way, most), due)
                        seen[due] = seen.get(due, 0) + 1
        self.assertTrue(all(seen.get(due, 0) > 0 for due in (1, 2, None)), seen)

    def test_by_hand(self):
        # Hits and misses by turns: (1, 2) is leapt by none, and each two together are a half.
        turns = Machine(2, ((0, 1, 1, 1), (1, 0, 1, 0)))
        self.assertEqual(least_shown(turns, (1, 2), "down", 4), 1)
        self.assertEqual(least_shown(turns, (2, 3), "down", 1), None)
        self.assertEqual(least_shown(turns, (2, 3), "down", 4), 2)
        self.assertEqual(least_shown(turns, (2, 3), "down", 2), 2)
        # Rows of three that begin above and end below.
        thirds = Machine(3, ((0, 1, 1, 3), (1, 2, 1, -4), (2, 0, 1, 1)))
        self.assertEqual(least_shown(thirds, (0, 1), "down", 4), 2)
        self.assertEqual(least_shown(H, (2, 5), "up", 4), None)
        self.assertEqual(least_shown(H, (4, 5), "up", 4), 1)
        self.assertEqual(least_shown(EMPTY, (4, 5), "up", 4), 1)

    def test_too_many_only_up_to_what_is_told(self):
        # Rows of two are too many; of one they are few.
        crowd = Machine(1, tuple((0, 0, 1, 2 ** number % 367) for number in range(25)))
        self.assertRaises(TooMany, bundled, crowd, 2)
        self.assertEqual(least_shown(crowd, (0, 1), "up", 4), 1)
        self.assertEqual(least_shown(crowd, (100, 1), "up", 1), None)
        for most in (2, 3, 4):
            with self.assertRaises(TooMany) as caught:
                least_shown(crowd, (100, 1), "up", most)
            self.assertEqual(caught.exception.most, 200)
        # Already its single events are too many, though none of them leaps.
        there = tuple((0, 1, 1, 20 * k) for k in range(20))
        more = parted(bundled(Machine(3, there + tuple((1, 2, 1, k) for k in range(10))), 2), 0, 1, 0)
        self.assertEqual(len(more.events), 201)
        self.assertTrue(never(more, (0, 1), "up"))
        for most in (1, 2, 4):
            self.assertRaises(TooMany, least_shown, more, (0, 1), "up", most)
        self.assertEqual(least_shown(struck(more, (3,)), (0, 1), "up", 4), 1)

    def test_errors_in_their_order(self):
        crowd = bundled(Machine(1, tuple((0, 0, 1, 2 ** number % 367) for number in range(19))), 2)
        for machine in (H, crowd):
            for share in NO_SHARES + odd_things():
                self.assertRaises(NoShare, least_shown, machine, share, None, None)
            for way in NO_WAYS + odd_things():
                self.assertRaises(NoWay, least_shown, machine, (1, 2), way, None)
            for most in odd_things() + [0, 5, -1, 10 ** 39, "1", (1,), [1], True, False, "", deep(40)]:
                self.assertRaises(NoNumber, least_shown, machine, (1, 2), "up", most)

    def test_likenesses(self):
        source = random.Random(215)
        for machine in [H, T] + random_machines(216, 25, 3, 5):
            for way in WAYS:
                share = source.choice(SHARES)
                try:
                    told = least_shown(machine, share, way, 3)
                except TooMany:
                    continue
                for _, other, changed, turned, _ in likenesses(machine, share, way, source.random()):
                    self.assertEqual(least_shown(other, changed, turned, 3), told)


class GreatMachines(unittest.TestCase):

    def test_both_ways(self):
        half = struck(GREAT, tuple(range(12, 30)))
        for share in GREAT_SHARES + [(1, 3), (-2, 5)]:
            for way in WAYS:
                try:
                    number, events = fewest_struck(half, share, way)
                except TooMany as error:
                    self.assertEqual(error.most, 4000)
                    continue
                self.assertEqual(number, len(events))
                self.assertTrue(never(struck(half, events), share, way))
                for fewer in combinations(events, max(number - 1, 0)):
                    self.assertEqual(number == 0, never(struck(half, fewer), share, way))

    def test_returned_machines(self):
        machine = spoken(("again", ("either", (("row", (HIT, MISS, event(2, -3))), event(3, 1)))))
        for share in SHARES:
            for way in WAYS:
                number, events = fewest_struck(machine, share, way)
                self.assertTrue(is_mend(machine, share, way, events))
                self.assertEqual(number == 0, never(machine, share, way))


if __name__ == "__main__":
    unittest.main()
