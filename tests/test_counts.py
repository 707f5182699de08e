"""11.1: how many runs there are of so many events, how many leap or show a share, and their numbers."""

import random
import unittest

from neverleapt.changes import bundled, parted, scaled, shifted
from neverleapt.counts import many_leaping, many_meeting, many_runs, run_at, run_number
from neverleapt.errors import NoNumber, NoRun, NoShare, NoWay, TooLong
from neverleapt.machines import Machine, is_run
from neverleapt.phrases import spoken
from tests.likeness import likenesses, reordered
from tests.phrasesamples import HIT, MISS, PHRASES, event
from tests.samples import (
    EMPTY, H, KNOTTED, LINKED, NO_SHARES, NO_WAYS, S, T, deep, knotted_machines, odd_things, random_machines, runs_of,
)
from tests.slow import GREAT_SHARES, SHARES, lift

WAYS = ("up", "down")
GREAT = Machine(12, tuple(
    (k % 12, (5 * k + 1) % 12, 1 + 7 * k % 40, 400 - 37 * k % 801) for k in range(30)))
NO_MANIES = [-1, 101, 10 ** 39, -10 ** 39, None, True, False, "1", "", (1,), [1], {}, deep(40)]


def runs_by_length(machine, most):
    """For each number of events up to most the list of all runs of so many."""
    found = [[] for _ in range(most + 1)]
    for run in runs_of(machine, most):
        found[len(run)].append(run)
    return found


def signs_of(machine, share, run):
    """-1, 0, 1 for the value ahead of the run and behind each of its events."""
    signs, total = [0], 0
    for number in run:
        total += lift(share, machine.events[number])
        signs.append((total > 0) - (total < 0))
    return signs


def leaps_in(machine, share, way, run):
    signs = signs_of(machine, share, run)
    return ((-1, 1) if way == "up" else (1, -1)) in list(zip(signs, signs[1:]))


def meets_in(machine, share, run):
    return 0 in signs_of(machine, share, run)[1:]


def plain_account(machine, share, way, most):
    """For each number of events how many runs there are, leap, and show the share, by standings and values."""
    sign = 1 if way == "up" else -1
    states = {(0, 0, False, False): 1}
    found = []
    for _ in range(most + 1):
        found.append((
            sum(states.values()),
            sum(many for state, many in states.items() if state[2]),
            sum(many for state, many in states.items() if state[3]),
        ))
        newer = {}
        for (standing, ahead, leapt, met), many in states.items():
            for one in machine.events:
                if one[0] == standing:
                    behind = ahead + lift(share, one)
                    state = (one[1], behind, leapt or sign * ahead < 0 < sign * behind, met or behind == 0)
                    newer[state] = newer.get(state, 0) + many
        states = newer
    return found


class AgainstAllRuns(unittest.TestCase):

    def check_all(self, machine, shares, most):
        for many, runs in enumerate(runs_by_length(machine, most)):
            self.assertEqual(many_runs(machine, many), len(runs))
            for share in shares:
                met = sum(meets_in(machine, share, run) for run in runs)
                self.assertEqual(many_meeting(machine, share, many), met)
                for way in WAYS:
                    leapt = sum(leaps_in(machine, share, way, run) for run in runs)
                    self.assertEqual(many_leaping(machine, share, way, many), leapt)

    def test_up_to_four_events(self):
        source = random.Random(221)
        for machine in [H, T, S, EMPTY, KNOTTED, LINKED] + random_machines(222, 60, 4, 6) + knotted_machines(223, 10):
            self.check_all(machine, source.sample(SHARES + GREAT_SHARES, 5), 4)

    def test_great_machines(self):
        self.check_all(GREAT, GREAT_SHARES + [(1, 3), (-3, 2), (20, 1)], 4)

    def test_returned_machines(self):
        great = shifted(scaled(scaled(scaled(KNOTTED, 1000), 1000), 999), 1000)
        for machine in (great, bundled(T, 2), parted(KNOTTED, 7, 3, 2), spoken(PHRASES[18]), spoken((
                "again", ("either", (HIT, MISS, ("row", (event(2, 3),) * 20)))))):
            self.check_all(machine, [(1, 2), (0, 1), (1000, 1), GREAT_SHARES[1]], 3)

    def test_numbers_are_integers(self):
        for many in (0, 1, 100):
            for told in (many_runs(H, many), many_leaping(H, (1, 2), "up", many), many_meeting(H, (1, 2), many)):
                self.assertIs(type(told), int)


class AgainstAPlainAccount(unittest.TestCase):

    def check(self, machine, share, way, most, step):
        account = plain_account(machine, share, way, most)
        for many in list(range(0, most + 1, step)) + [most]:
            runs, leapt, met = account[many]
            self.assertEqual(many_runs(machine, many), runs)
            self.assertEqual(many_leaping(machine, share, way, many), leapt)
            self.assertEqual(many_meeting(machine, share, many), met)

    def test_a_hundred_events(self):
        for machine, share in ((H, (2, 3)), (H, (7, 10)), (T, (1, 2)), (S, (7, 2)), (LINKED, (1, 2)), (KNOTTED, (0, 1))):
            for way in WAYS:
                self.check(machine, share, way, 100, 23)

    def test_random_machines(self):
        source = random.Random(224)
        for machine in random_machines(225, 25, 3, 7, 2, 3):
            self.check(machine, source.choice(SHARES), source.choice(WAYS), 100, 33)
        for machine in random_machines(226, 25, 5, 9):
            self.check(machine, source.choice(SHARES), source.choice(WAYS), 20, 6)

    def test_shares_that_no_board_can_show(self):
        for machine in (H, GREAT, shifted(GREAT, 3)):
            for share in GREAT_SHARES[:3]:
                self.assertEqual(many_meeting(machine, share, 100), 0)
        # The greatest bottom that is shown, and one above it.
        machine = Machine(1, ((0, 0, 40, 1), (0, 0, 40, 2)))
        for bottom, met in ((3999, 0), (4000, 100), (4001, 0)):
            self.assertEqual(many_meeting(machine, (101, bottom), 100), met)


class ByHand(unittest.TestCase):

    def test_without_events(self):
        for machine in (H, EMPTY, GREAT):
            self.assertEqual(many_runs(machine, 0), 1)
            self.assertEqual(many_meeting(machine, (0, 1), 0), 0)
            self.assertEqual(run_at(machine, 0, 0), ())
            self.assertEqual(run_number(machine, ()), 0)
            for way in WAYS:
                self.assertEqual(many_leaping(machine, (0, 1), way, 0), 0)
        for many in (1, 2, 100):
            self.assertEqual(many_runs(EMPTY, many), 0)
            self.assertRaises(NoNumber, run_at, EMPTY, many, 0)

    def test_two_leaps_count_once(self):
        # One up, two down, two up, two down: leaps up at the third event and at the fifth.
        machine = Machine(4, ((0, 1, 1, -1), (1, 2, 1, 2), (2, 3, 1, -2), (3, 1, 1, 0)))
        for many, due in ((1, 0), (2, 1), (3, 1), (4, 1), (5, 1), (8, 1)):
            self.assertEqual(many_leaping(machine, (0, 1), "up", many), due)
        for many, due in ((2, 0), (3, 1), (9, 1)):
            self.assertEqual(many_leaping(machine, (0, 1), "down", many), due)

    def test_shown_twice_counts_once(self):
        self.assertEqual(many_meeting(T, (1, 2), 2), 2)
        self.assertEqual(many_meeting(T, (1, 2), 4), 10)
        self.assertEqual(many_meeting(H, (0, 1), 3), 4)

    def test_runs_that_end(self):
        # The one event that goes on shows 1; the other one ends the run, which then is none of three events.
        machine = Machine(2, ((0, 0, 1, 1), (0, 1, 1, -5)))
        self.assertEqual([many_runs(machine, many) for many in range(4)], [1, 2, 2, 2])
        self.assertEqual([many_meeting(machine, (1, 1), many) for many in range(4)], [0, 1, 2, 2])
        self.assertEqual([many_leaping(machine, (0, 1), "down", many) for many in range(4)], [0, 0, 1, 1])

    def test_hits(self):
        # All runs but those of hits alone go below 1; from there none comes above.
        for many in (1, 5, 100):
            self.assertEqual(many_runs(H, many), 2 ** many)
            self.assertEqual(many_meeting(H, (1, 1), many), 2 ** (many - 1))
            self.assertEqual(many_leaping(H, (1, 1), "up", many), 0)
            self.assertEqual(many_leaping(H, (4, 5), "up", many), 0)


class RunsByNumber(unittest.TestCase):

    def test_against_the_list(self):
        for machine in [H, T, S, KNOTTED, LINKED, EMPTY] + random_machines(227, 40, 4, 5):
            for many, runs in enumerate(runs_by_length(machine, 4)):
                for number, run in enumerate(sorted(runs)):
                    told = run_at(machine, many, number)
                    self.assertIs(type(told), tuple)
                    self.assertEqual(told, run)
                    self.assertEqual(run_number(machine, run), number)
                for number in (-1, len(runs), len(runs) + 1, 10 ** 39):
                    self.assertRaises(NoNumber, run_at, machine, many, number)

    def test_long_runs_there_and_back(self):
        source = random.Random(228)
        for machine in [H, T, GREAT, LINKED, spoken(PHRASES[-1])] + random_machines(229, 10, 3, 9):
            for many in (5, 40, 99, 100):
                runs = many_runs(machine, many)
                if not runs:
                    continue
                for number in {0, runs - 1, runs // 2, source.randrange(runs)}:
                    run = run_at(machine, many, number)
                    self.assertEqual(len(run), many)
                    self.assertTrue(is_run(machine, run))
                    self.assertEqual(run_number(machine, run), number)
                self.assertRaises(NoNumber, run_at, machine, many, runs)
                self.assertEqual(run_at(machine, many, 0), min(run_at(machine, many, k) for k in range(min(runs, 5))))

    def test_too_long(self):
        self.assertEqual(run_number(H, (1,) * 100), 2 ** 100 - 1)
        with self.assertRaises(TooLong) as caught:
            run_number(H, (1,) * 101)
        self.assertEqual(caught.exception.most, 100)
        self.assertRaises(NoRun, run_number, H, (1,) * 101 + (2,))
        self.assertRaises(TooLong, run_number, H, (0,) * 9000)

    def test_no_run(self):
        wrong = [[], [0], (2,), (-1,), (0, True), (None,), "0", 0, ((0,),), (10 ** 39,)]
        for thing in wrong + odd_things():
            self.assertRaises(NoRun, run_number, H, thing)
        self.assertRaises(NoRun, run_number, T, (0, 0))
        self.assertRaises(NoRun, run_number, T, (2,))


class Errors(unittest.TestCase):

    def test_no_share(self):
        for share in NO_SHARES + odd_things():
            self.assertRaises(NoShare, many_leaping, H, share, None, None)
            self.assertRaises(NoShare, many_meeting, H, share, None)

    def test_no_way(self):
        for way in NO_WAYS + odd_things():
            self.assertRaises(NoWay, many_leaping, H, (1, 2), way, None)

    def test_no_number(self):
        for many in NO_MANIES + odd_things():
            self.assertRaises(NoNumber, many_runs, H, many)
            self.assertRaises(NoNumber, many_leaping, H, (1, 2), "up", many)
            self.assertRaises(NoNumber, many_meeting, H, (1, 2), many)
            self.assertRaises(NoNumber, run_at, H, many, 0)
            self.assertRaises(NoNumber, run_at, H, many, None)
        for number in odd_things() + [-1, 4, 10 ** 39, "0", (0,), [0], True, False]:
            self.assertRaises(NoNumber, run_at, H, 2, number)


class Likenesses(unittest.TestCase):

    def test_changed_machines(self):
        source = random.Random(230)
        for machine in [H, T, S, LINKED] + random_machines(231, 20, 4, 7):
            for way in WAYS:
                share, many = source.choice(SHARES), source.randint(0, 15)
                for name, other, changed, turned, _ in likenesses(machine, share, way, source.random()):
                    self.assertEqual(many_runs(other, many), many_runs(machine, many))
                    self.assertEqual(
                        many_leaping(other, changed, turned, many), many_leaping(machine, share, way, many))
                    self.assertEqual(many_meeting(other, changed, many), many_meeting(machine, share, many))
                other, names = reordered(machine, source.random())
                runs = many_runs(machine, many)
                if runs:
                    run = run_at(machine, many, source.randrange(runs))
                    renamed = tuple(names[number] for number in run)
                    self.assertEqual(run_at(other, many, run_number(other, renamed)), renamed)


if __name__ == "__main__":
    unittest.main()
