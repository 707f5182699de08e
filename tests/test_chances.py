"""11.2: how likely a share is leapt or shown where events come by weights."""

import random
import unittest
from fractions import Fraction
from math import gcd

from neverleapt.changes import bundled, parted, scaled, shifted
from neverleapt.chances import chance, meeting_chance
from neverleapt.counts import many_leaping, many_meeting, many_runs
from neverleapt.errors import NoNumber, NoShare, NoWay, NoWeights
from neverleapt.machines import Machine
from neverleapt.phrases import spoken
from tests.likeness import likenesses
from tests.phrasesamples import PHRASES
from tests.samples import (
    EMPTY, H, KNOTTED, LINKED, NO_SHARES, NO_WAYS, S, T, deep, knotted_machines, odd_things, random_machines,
)
from tests.slow import GREAT_SHARES, SHARES, lift
from tests.test_counts import leaps_in, meets_in

WAYS = ("up", "down")
GREAT = Machine(12, tuple(
    (k % 12, (5 * k + 1) % 12, 1 + 7 * k % 40, 400 - 37 * k % 801) for k in range(30)))
NO_MANIES = [-1, 41, 100, 10 ** 39, -10 ** 39, None, True, False, "1", "", (1,), [1], {}, deep(40)]


def weights_for(machine, source):
    return tuple(source.choice([1, 1, 2, 3, 10, 99, source.randint(1, 99)]) for _ in machine.events)


def rows_with_chances(machine, weights, many):
    """All runs of so many events, or less where they cannot go on, each with its chance."""
    found = []
    waiting = [((), 0, Fraction(1))]
    while waiting:
        run, standing, likely = waiting.pop()
        here = [number for number, event in enumerate(machine.events) if event[0] == standing]
        if len(run) == many or not here:
            found.append((run, likely))
            continue
        whole = sum(weights[number] for number in here)
        for number in here:
            waiting.append((run + (number,), machine.events[number][1], likely * Fraction(weights[number], whole)))
    return found


def plain_account(machine, share, way, weights, most):
    """For each number of events the chances of a leap and of a showing, by standings and values."""
    sign = 1 if way == "up" else -1
    sums = [sum(weights[k] for k, one in enumerate(machine.events) if one[0] == here) for here in range(machine.standings)]
    states = {(0, 0, False, False): Fraction(1)}
    found = []
    for _ in range(most + 1):
        found.append((
            sum(likely for state, likely in states.items() if state[2]),
            sum(likely for state, likely in states.items() if state[3]),
        ))
        newer = {}
        for (standing, ahead, leapt, met), likely in states.items():
            if not sums[standing]:
                state = (standing, ahead, leapt, met)
                newer[state] = newer.get(state, 0) + likely
            for number, one in enumerate(machine.events):
                if one[0] == standing:
                    behind = ahead + lift(share, one)
                    state = (one[1], behind, leapt or sign * ahead < 0 < sign * behind, met or behind == 0)
                    newer[state] = newer.get(state, 0) + likely * Fraction(weights[number], sums[standing])
        states = newer
    return found


class ChancesCase(unittest.TestCase):

    def check(self, told, due):
        """Whether what is told is the share that is due, in lowest terms."""
        self.assertIs(type(told), tuple)
        self.assertEqual([type(part) for part in told], [int, int])
        self.assertEqual(gcd(*told), 1)
        due = Fraction(due)
        self.assertEqual(told, (due.numerator, due.denominator))


class AgainstAllRows(ChancesCase):

    def check_all(self, machine, share, weights, many):
        rows = rows_with_chances(machine, weights, many)
        self.assertEqual(sum(likely for _, likely in rows), 1)
        due = sum(likely for run, likely in rows if meets_in(machine, share, run))
        self.check(meeting_chance(machine, share, weights, many), due)
        for way in WAYS:
            due = sum(likely for run, likely in rows if leaps_in(machine, share, way, run))
            self.check(chance(machine, share, way, weights, many), due)

    def test_up_to_four_events(self):
        source = random.Random(241)
        for machine in [H, T, S, EMPTY, KNOTTED, LINKED] + random_machines(242, 60, 4, 6) + knotted_machines(243, 10):
            weights = weights_for(machine, source)
            for share in source.sample(SHARES + GREAT_SHARES, 3):
                for many in range(5):
                    self.check_all(machine, share, weights, many)

    def test_great_machines(self):
        source = random.Random(244)
        for share in GREAT_SHARES + [(1, 3), (-3, 2), (20, 1)]:
            weights = weights_for(GREAT, source)
            for many in range(5):
                self.check_all(GREAT, share, weights, many)

    def test_returned_machines(self):
        source = random.Random(245)
        for machine in (shifted(scaled(KNOTTED, 1000), -1000), bundled(T, 2), parted(KNOTTED, 7, 3, 2), spoken(PHRASES[18])):
            weights = weights_for(machine, source)
            for share in ((0, 1), (1, 2), (-1000, 1), GREAT_SHARES[2]):
                for many in range(4):
                    self.check_all(machine, share, weights, many)


class AgainstAPlainAccount(ChancesCase):

    def check_account(self, machine, share, way, weights, most, step):
        account = plain_account(machine, share, way, weights, most)
        for many in list(range(0, most + 1, step)) + [most]:
            self.check(chance(machine, share, way, weights, many), account[many][0])
            self.check(meeting_chance(machine, share, weights, many), account[many][1])

    def test_forty_events(self):
        source = random.Random(246)
        for machine, share in ((H, (2, 3)), (H, (7, 10)), (T, (1, 2)), (S, (7, 2)), (LINKED, (1, 2)), (KNOTTED, (0, 1))):
            for way in WAYS:
                self.check_account(machine, share, way, weights_for(machine, source), 40, 13)

    def test_random_machines(self):
        source = random.Random(247)
        for machine in random_machines(248, 15, 4, 7, 2, 3):
            way = source.choice(WAYS)
            self.check_account(machine, source.choice(SHARES), way, weights_for(machine, source), 40, 19)
        for machine in random_machines(249, 20, 5, 9):
            way = source.choice(WAYS)
            self.check_account(machine, source.choice(SHARES), way, weights_for(machine, source), 10, 5)


class ByHand(ChancesCase):

    def test_no_events_come(self):
        for machine in (H, EMPTY):
            weights = (1,) * len(machine.events)
            for way in WAYS:
                self.check(chance(machine, (0, 1), way, weights, 0), 0)
            self.check(meeting_chance(machine, (0, 1), weights, 0), 0)
            self.check(meeting_chance(machine, (0, 1), weights, 40), Fraction(1, 2) if machine is H else 0)

    def test_even_weights_count_runs(self):
        # Where as many events can come everywhere, even weights make all runs alike.
        for weight in (1, 7, 99):
            for machine in (H, T, S):
                weights = (weight,) * len(machine.events)
                for many in (1, 3, 12, 40):
                    runs = many_runs(machine, many)
                    due = Fraction(many_leaping(machine, (3, 5), "up", many), runs)
                    self.check(chance(machine, (3, 5), "up", weights, many), due)
                    due = Fraction(many_meeting(machine, (3, 5), many), runs)
                    self.check(meeting_chance(machine, (3, 5), weights, many), due)

    def test_weights_of_one_and_ninety_nine(self):
        self.check(meeting_chance(H, (1, 1), (99, 1), 1), Fraction(99, 100))
        self.check(meeting_chance(H, (1, 1), (1, 99), 40), Fraction(1, 100))
        self.check(meeting_chance(H, (1, 2), (99, 1), 2), Fraction(2 * 99, 100 * 100))
        # A hit, then a miss: from 1 down to a half.
        self.check(chance(H, (2, 3), "down", (99, 1), 2), Fraction(99, 100 * 100))

    def test_what_cannot_go_on_stays(self):
        # With one of three weights it ends at once; the other way it leaps with the second event, and ends.
        machine = Machine(4, ((0, 1, 1, -5), (0, 2, 1, -1), (2, 3, 1, 3)))
        for many in (2, 3, 40):
            self.check(chance(machine, (0, 1), "up", (1, 2, 50), many), Fraction(2, 3))
            self.check(meeting_chance(machine, (-5, 1), (1, 2, 50), many), Fraction(1, 3))
        self.check(chance(machine, (0, 1), "up", (1, 2, 50), 1), 0)
        # What is never reached has no part in it, whatever its weights.
        machine = Machine(4, machine.events + ((1, 1, 1, 0),) + ((3, 3, 1, 0),))
        self.check(chance(machine, (0, 1), "up", (1, 2, 50, 97, 98), 40), Fraction(2, 3))

    def test_unreached_standings(self):
        machine = Machine(3, ((0, 0, 1, 1), (0, 0, 1, -1), (1, 0, 1, 5), (1, 2, 1, 5), (2, 0, 1, -4)))
        for many in range(5):
            due = Fraction(many_meeting(machine, (0, 1), many), 2 ** many)
            self.check(meeting_chance(machine, (0, 1), (7, 7, 1, 99, 98), many), due)

    def test_whole_chances(self):
        machine = Machine(2, ((0, 1, 1, -1), (1, 0, 1, 2)))
        self.check(chance(machine, (0, 1), "up", (5, 6), 2), 1)
        self.check(chance(machine, (0, 1), "up", (5, 6), 40), 1)
        self.check(meeting_chance(machine, (-1, 1), (5, 6), 1), 1)


class Errors(unittest.TestCase):

    def test_no_share(self):
        for share in NO_SHARES + odd_things():
            self.assertRaises(NoShare, chance, H, share, None, None, None)
            self.assertRaises(NoShare, meeting_chance, H, share, None, None)

    def test_no_way(self):
        for way in NO_WAYS + odd_things():
            self.assertRaises(NoWay, chance, H, (1, 2), way, None, None)

    def test_no_weights(self):
        wrong = [
            (), (1,), (1, 1, 1), [1, 1], (0, 1), (1, 0), (100, 1), (1, 100), (-1, 1), (True, 1), (1, True), (1, False),
            (None, 1), ("1", 1), (1, (1,)), "11", 1, {0: 1, 1: 1}, (10 ** 39, 1), deep(40), (1, deep(38)), range(1, 3),
        ]
        for weights in wrong + odd_things():
            for many in (3, None, 41):
                self.assertRaises(NoWeights, chance, H, (1, 2), "up", weights, many)
                self.assertRaises(NoWeights, meeting_chance, H, (1, 2), weights, many)
        for weights in wrong[1:] + [(1, 2), [], None, 0, False]:
            self.assertRaises(NoWeights, chance, EMPTY, (1, 2), "up", weights, 3)
            self.assertRaises(NoWeights, meeting_chance, EMPTY, (1, 2), weights, 3)
        self.assertEqual(chance(EMPTY, (1, 2), "up", (), 3), (0, 1))

    def test_no_number(self):
        for many in NO_MANIES + odd_things():
            self.assertRaises(NoNumber, chance, H, (1, 2), "up", (1, 99), many)
            self.assertRaises(NoNumber, meeting_chance, H, (1, 2), (99, 1), many)


class Likenesses(unittest.TestCase):

    def test_changed_machines(self):
        source = random.Random(250)
        for machine in [H, T, S, LINKED] + random_machines(251, 20, 4, 7):
            weights = weights_for(machine, source)
            for way in WAYS:
                share, many = source.choice(SHARES), source.randint(0, 12)
                told = chance(machine, share, way, weights, many)
                met = meeting_chance(machine, share, weights, many)
                for _, other, changed, turned, names in likenesses(machine, share, way, source.random()):
                    renamed = tuple(weights[names.index(number)] for number in range(len(names)))
                    self.assertEqual(chance(other, changed, turned, renamed, many), told)
                    self.assertEqual(meeting_chance(other, changed, renamed, many), met)


if __name__ == "__main__":
    unittest.main()
