"""5.4, 6.1 and 6.3: the shortest leaps, where a run leaps, and the widest leap."""

import random
import unittest
from fractions import Fraction

from neverleapt.changes import mirrored, parted, scaled, shifted
from neverleapt.errors import NoRun, NoShare, NoWay, TooMany
from neverleapt.leaping import is_leap, leap, leaps, meets, widest
from neverleapt.machines import Machine, is_run, shares
from neverleapt.phrases import spoken
from neverleapt.rings import is_balanced, measure
from neverleapt.verdicts import never, rule
from tests.phrasesamples import HIT, MISS, event
from tests.samples import EMPTY, H, KNOTTED, LINKED, NO_SHARES, NO_WAYS, S, T, deep, odd_things, random_machines, runs_of
from tests.slow import GREAT_SHARES, SHARES, leaping_runs, lift, states_of
from tests.test_tables import GREATEST

WAYS = ("up", "down")
NO_RUNS = ["", "0", 0, [0], (2,), (0, 2), (-1,), (0, 10 ** 39), (False,), (0, True), ((0,),), (0, "1"), (0, None), deep(40)]


def shortest(found):
    """The least of the shortest of some leaping runs, None without one."""
    return min([(len(run), run) for run, _, _ in found], default=(0, None))[1]


class Leap(unittest.TestCase):

    def check(self, machine, share, way, run):
        told = leap(machine, share, way)
        self.assertEqual(told, run)
        if run is not None:
            self.assertIs(type(told), tuple)
            self.assertIs(is_leap(machine, share, way, told), True)

    def test_against_all_runs(self):
        found_some = found_none = 0
        for machine in [H, T, EMPTY] + random_machines(101, 250, 4, 4):
            for share in SHARES[:7]:
                for way in WAYS:
                    found = leaping_runs(machine, share, way, 8 if len(machine.events) < 3 else 6)
                    if found:
                        self.check(machine, share, way, shortest(found))
                        found_some += 1
                    elif never(machine, share, way):
                        self.check(machine, share, way, None)
                        found_none += 1
                    else:
                        told = leap(machine, share, way)
                        self.assertIs(is_leap(machine, share, way, told), True)
                        self.assertGreater(len(told), 6)
        self.assertTrue(found_some > 300 and found_none > 300)

    def test_more_events(self):
        source = random.Random(102)
        for machine in [S, KNOTTED, LINKED] + random_machines(103, 60, 6, 12, 5, 9):
            for share in source.sample(SHARES, 4):
                for way in WAYS:
                    found = leaping_runs(machine, share, way, 4)
                    if found:
                        self.check(machine, share, way, shortest(found))

    def test_runs_of_up_to_eight_events(self):
        # Three events alone, and leaps that take a while.
        source = random.Random(104)
        long = 0
        for _ in range(60):
            machine = Machine(2, (
                (0, 1, source.randint(1, 3), source.randint(-9, 9)), (1, 0, source.randint(1, 3), source.randint(-9, 9)),
                (0, 0, source.randint(1, 3), source.randint(-9, 9)),
            ))
            for share in ((0, 1), (3, 7), (-5, 8)):
                for way in WAYS:
                    found = leaping_runs(machine, share, way, 8)
                    if found:
                        self.check(machine, share, way, shortest(found))
                        long += len(shortest(found)) > 5
        self.assertGreater(long, 5)

    def test_least_of_equal_ones(self):
        machine = Machine(1, ((0, 0, 1, 3), (0, 0, 1, -2), (0, 0, 1, -1), (0, 0, 1, 2), (0, 0, 1, 3)))
        self.check(machine, (0, 1), "up", (1, 0))
        self.check(machine, (0, 1), "down", (0, 1, 1))
        self.check(H, (7, 10), "up", (0, 0, 1, 0))
        self.check(H, (1, 10 ** 29 - 1), "down", None)

    def test_great_shares(self):
        for machine in [H, S, T, GREATEST] + random_machines(105, 60, 4, 6):
            for share in GREAT_SHARES:
                for way in WAYS:
                    found = leaping_runs(machine, share, way, 4 if len(machine.events) < 8 else 2)
                    try:
                        told = leap(machine, share, way)
                    except TooMany as error:
                        self.assertFalse(found)
                        self.assertIn(error.most, (4000, 100000))
                        self.assertFalse(error.most == 4000 and is_balanced(machine, share))
                        continue
                    if found:
                        self.assertEqual(told, shortest(found))
                    self.assertIs(told is None, never(machine, share, way))

    def test_too_many_only_where_it_may(self):
        # At most four events, and some run of at most twelve leaps.
        source = random.Random(106)
        told = 0
        for _ in range(120):
            standings = source.randint(1, 3)
            machine = Machine(standings, tuple(
                (source.randrange(standings), source.randrange(standings), source.randint(1, 40), source.randint(-400, 400))
                for _ in range(source.randint(2, 4))
            ))
            share = source.choice(SHARES + GREAT_SHARES)
            for way in WAYS:
                found = leaping_runs(machine, share, way, 7)
                if found and (standings == 1 or is_balanced(machine, share)):
                    self.check(machine, share, way, shortest(found))
                    told += 1
        self.assertGreater(told, 20)

    def test_twelve_events(self):
        # Eleven times the first lifts by one, and the other sinks by eleven and a bit more.
        machine = Machine(2, ((0, 0, 1, 1), (0, 1, 1, -21), (1, 1, 1, 2), (1, 0, 1, 0)))
        found = leap(machine, (0, 1), "up")
        self.assertEqual(found, (1,) + (2,) * 11)
        machine = Machine(1, ((0, 0, 1, 23), (0, 0, 1, -2)))
        self.check(machine, (0, 1), "down", (0,) + (1,) * 12)
        self.check(machine, (0, 1), "up", (1, 0))
        machine = Machine(1, ((0, 0, 1, 21), (0, 0, 1, -2)))
        self.check(machine, (0, 1), "down", (0,) + (1,) * 11)

    def test_farther_than_can_be_told(self):
        # Hits lift by 3, misses sink by nearly a whole bottom: the first leap up comes behind a third of it.
        share = (10 ** 29 - 3, 10 ** 29)
        self.assertIs(never(H, share, "up"), False)
        with self.assertRaises(TooMany) as caught:
            leap(H, share, "up")
        self.assertEqual(caught.exception.most, 100000)
        self.check(H, share, "down", (0, 1))

    def test_both_ways(self):
        for machine in random_machines(107, 60):
            for top, bottom in SHARES[:5]:
                for way, other in (WAYS, WAYS[::-1]):
                    self.assertEqual(
                        leap(mirrored(machine), (-top, bottom), other), leap(machine, (top, bottom), way))

    def test_returned_machines(self):
        for share in SHARES:
            for way in WAYS:
                self.assertEqual(
                    leap(shifted(T, 1000), (share[0] + 1000 * share[1], share[1]), way), leap(T, share, way))
        self.check(scaled(H, 1000), (700, 1), "up", (0, 0, 1, 0))
        machine = parted(Machine(1, ((0, 0, 2, 1), (0, 0, 1, 0))), 0, 1, 10 ** 39)
        self.check(machine, (1, 4), "up", (1, 0))
        self.check(machine, (1, 4), "down", (1, 1, 1, 0, 2))
        machine = spoken(("again", ("either", (HIT, ("row", (MISS, MISS, event(2, 3)))))))
        for share in SHARES:
            for way in WAYS:
                found = leaping_runs(machine, share, way, 6)
                if found:
                    self.check(machine, share, way, shortest(found))

    def test_errors(self):
        for thing in odd_things() + NO_SHARES:
            with self.subTest(str(thing)[:40]):
                self.assertRaises(NoShare, leap, H, thing, "up")
                self.assertRaises(NoShare, leap, H, thing, None)
                self.assertRaises(NoShare, is_leap, H, thing, None, None)
                self.assertRaises(NoShare, widest, H, thing, None)
        for thing in odd_things() + NO_WAYS:
            with self.subTest(str(thing)[:40]):
                self.assertRaises(NoWay, leap, H, (1, 2), thing)
                self.assertRaises(NoWay, is_leap, H, (1, 2), thing, None)
                self.assertRaises(NoWay, widest, H, (1, 2), thing)

    def test_example_e04(self):
        self.assertEqual(leap(H, (7, 10), "up"), (0, 0, 1, 0))


class IsLeap(unittest.TestCase):

    def test_against_all_runs(self):
        for machine in [H, T, S, LINKED] + random_machines(108, 40):
            for share in SHARES[:5]:
                for way in WAYS:
                    found = {run for run, _, _ in leaping_runs(machine, share, way, 4)}
                    for run in runs_of(machine, 4):
                        self.assertIs(is_leap(machine, share, way, run), run in found)

    def test_what_is_no_run(self):
        for thing in odd_things() + NO_RUNS:
            for way in WAYS:
                with self.subTest(str(thing)[:40]):
                    self.assertIs(is_leap(H, (7, 10), way, thing), False)
        self.assertIs(is_leap(H, (7, 10), "up", ()), False)
        self.assertIs(is_leap(H, (7, 10), "up", [0, 0, 1, 0]), False)
        self.assertIs(is_leap(T, (1, 2), "up", (0, 0)), False)

    def test_just_the_last_event(self):
        self.assertIs(is_leap(H, (7, 10), "up", (0, 0, 1, 0)), True)
        self.assertIs(is_leap(H, (7, 10), "up", (0, 0, 1, 0, 0)), False)
        self.assertIs(is_leap(H, (7, 10), "down", (0, 0, 1)), True)
        self.assertIs(is_leap(H, (2, 3), "down", (0, 0, 1)), False)
        self.assertIs(is_leap(H, (1, 2), "up", (0,)), False)


class Leaps(unittest.TestCase):

    def walk(self, machine, share, way, run):
        """The places of the leaps and of the meetings, by the shares that are shown."""
        leapt, met = [], []
        ahead = None
        for place, shown in enumerate(shares(machine, run)):
            here = Fraction(*shown) - Fraction(*share)
            if here == 0:
                met.append(place)
            if ahead is not None and (ahead < 0 < here if way == "up" else ahead > 0 > here):
                leapt.append(place)
            ahead = here
        return leapt, met

    def test_against_a_walk(self):
        source = random.Random(109)
        for machine in [H, S, T, LINKED, GREATEST] + random_machines(110, 80):
            for _ in range(6):
                run, standing = [], 0
                for _ in range(source.randint(0, 40)):
                    can = [number for number, one in enumerate(machine.events) if one[0] == standing]
                    if not can:
                        break
                    run.append(source.choice(can))
                    standing = machine.events[run[-1]][1]
                for share in SHARES + GREAT_SHARES:
                    for way in WAYS:
                        leapt, met = self.walk(machine, share, way, tuple(run))
                        self.assertEqual(leaps(machine, share, way, tuple(run)), leapt)
                        self.assertEqual(meets(machine, share, tuple(run)), met)

    def test_by_hand(self):
        run = (0, 0, 1, 0, 1, 1, 0)
        self.assertEqual(leaps(H, (7, 10), "up", run), [3])
        self.assertEqual(leaps(H, (7, 10), "down", run), [2, 4])
        self.assertEqual(meets(H, (1, 2), run), [5])
        self.assertEqual(meets(H, (1, 1), run), [0, 1])
        # The begin shows none, and nothing can be leapt from there.
        self.assertEqual(meets(H, (0, 1), (0, 1)), [])
        self.assertEqual(meets(H, (0, 1), (1, 1, 0)), [0, 1])
        for way in WAYS:
            self.assertEqual(leaps(H, (1, 2), way, (0,)), [])
            self.assertEqual(leaps(H, (1, 2), way, ()), [])
        self.assertEqual(meets(H, (1, 2), ()), [])

    def test_long_run(self):
        run = (0, 1, 1, 0) * 2499
        self.assertEqual(meets(H, (1, 2), run), [place for place in range(len(run)) if place % 2])
        self.assertEqual(leaps(H, (1, 2), "up", run), [])

    def test_new_lists(self):
        for function in (lambda: leaps(H, (7, 10), "up", (0, 0, 1, 0)), lambda: meets(H, (1, 2), (0, 1))):
            first = function()
            self.assertIs(type(first), list)
            first.append(None)
            self.assertEqual(function(), first[:-1])

    def test_errors_in_their_order(self):
        for thing in odd_things() + NO_SHARES:
            with self.subTest(str(thing)[:40]):
                self.assertRaises(NoShare, leaps, H, thing, None, None)
                self.assertRaises(NoShare, leaps, H, thing, "up", (0,))
                self.assertRaises(NoShare, meets, H, thing, None)
                self.assertRaises(NoShare, meets, H, thing, (0,))
        for thing in odd_things() + NO_WAYS:
            with self.subTest(str(thing)[:40]):
                self.assertRaises(NoWay, leaps, H, (1, 2), thing, (0,))
                self.assertRaises(NoWay, leaps, H, (1, 2), thing, None)
        for thing in odd_things() + NO_RUNS:
            with self.subTest(str(thing)[:40]):
                self.assertRaises(NoRun, leaps, H, (1, 2), "down", thing)
                self.assertRaises(NoRun, meets, H, (1, 2), thing)


class Widest(unittest.TestCase):

    def test_against_all_that_comes(self):
        some = 0
        for machine in [H, S, T, EMPTY, LINKED] + random_machines(111, 250, 4, 7, 3, 5):
            for share in SHARES[:6]:
                states = states_of(machine, share, 300)
                for way, sign in (("up", 1), ("down", -1)):
                    found = [
                        (-abs(lift(share, one)), number)
                        for number, one in enumerate(machine.events)
                        for standing, value in states
                        if one[0] == standing and sign * value < 0 < sign * (value + lift(share, one))
                    ]
                    due = (-min(found)[0], min(found)[1]) if found else None
                    self.assertEqual(widest(machine, share, way), due)
                    some += due is not None
        self.assertGreater(some, 200)

    def test_balanced(self):
        for machine in [H, S, GREATEST] + random_machines(112, 100, 4, 9, 40, 400):
            for share in SHARES + GREAT_SHARES:
                if not is_balanced(machine, share):
                    continue
                for way in WAYS:
                    told = widest(machine, share, way)
                    found = [(rise, -number) for number, rise, most in rule(machine, share, way) if rise > most]
                    self.assertEqual(told, (max(found)[0], -max(found)[1]) if found else None)
                    self.assertIs(told is None, never(machine, share, way))

    def test_by_hand(self):
        self.assertEqual(widest(H, (7, 10), "up"), (3, 0))
        self.assertEqual(widest(H, (7, 10), "down"), (7, 1))
        self.assertIsNone(widest(H, (4, 5), "up"))
        self.assertIsNone(widest(EMPTY, (4, 5), "up"))
        machine = Machine(1, ((0, 0, 1, 2), (0, 0, 1, 3), (0, 0, 1, -1), (0, 0, 1, 3)))
        self.assertEqual(widest(machine, (0, 1), "up"), (3, 1))
        # A great lift that comes too late, or too early, is none that leaps.
        machine = Machine(3, ((0, 1, 1, -2), (1, 2, 1, 3), (2, 2, 1, 9), (0, 0, 1, 7)))
        self.assertEqual(widest(machine, (0, 1), "up"), (3, 1))

    def test_great_measures(self):
        machine = scaled(scaled(Machine(2, ((0, 1, 1, 1), (1, 0, 1, 3), (1, 0, 1, -5), (0, 0, 1, 4))), 1000), 1000)
        self.assertEqual(measure(machine, (0, 1), 0), 4 * 10 ** 6)
        self.assertEqual(widest(machine, (0, 1), "down"), (5 * 10 ** 6, 2))
        self.assertIsNone(widest(machine, (0, 1), "up"))

    def test_too_many_only_where_it_may(self):
        for machine in random_machines(113, 100, 4, 7):
            for share in GREAT_SHARES:
                for way in WAYS:
                    try:
                        told = widest(machine, share, way)
                    except TooMany as error:
                        self.assertEqual(error.most, 4000)
                        self.assertFalse(is_balanced(machine, share))
                        continue
                    self.assertIs(told is None, never(machine, share, way))
                    found = leaping_runs(machine, share, way, 3)
                    if found:
                        self.assertGreaterEqual(told[0], max(rise for _, _, rise in found))


class NothingIsChanged(unittest.TestCase):

    def test_what_was_passed_stays(self):
        machine = Machine(4, LINKED.events[:4])
        events = machine.events
        run = (0, 1, 2)
        for way in WAYS:
            for function in (leap, widest, never):
                self.assertEqual(function(machine, (1, 3), way), function(machine, (1, 3), way))
            leaps(machine, (1, 3), way, run)
        meets(machine, (1, 3), run)
        self.assertEqual((machine.events, run), (events, (0, 1, 2)))
        self.assertIs(is_run(machine, run), True)


if __name__ == "__main__":
    unittest.main()
