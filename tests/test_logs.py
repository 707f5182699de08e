"""12.1 and 12.2: shares that were shown, and the runs that can have shown them."""

import random
import unittest
from fractions import Fraction

from neverleapt.changes import bundled, parted, scaled, shifted
from neverleapt.errors import NoLog, NoShare, NoWay, TooMany
from neverleapt.logs import first_wrong, fitting, next_shares, surely_leapt
from neverleapt.machines import Machine, made, shares
from neverleapt.phrases import spoken
from tests.likeness import changed_share, likenesses
from tests.phrasesamples import PHRASES
from tests.samples import (
    EMPTY, H, KNOTTED, LINKED, NO_SHARES, NO_WAYS, S, T, deep, knotted_machines, odd_things, random_machines, runs_of,
)
from tests.slow import GREAT_SHARES, SHARES
from tests.test_counts import leaps_in

WAYS = ("up", "down")
GREAT = Machine(12, tuple(
    (k % 12, (5 * k + 1) % 12, 1 + 7 * k % 40, 400 - 37 * k % 801) for k in range(30)))
# Without points: all shares are 0, and the triples are as many as there are tries.
IDLE = Machine(12, tuple((k, (k + 1) % 12, 1 + k, 0) for k in range(12)) + tuple(
    (k % 12, (7 * k + 3) % 12, 40 - k, 0) for k in range(18)))
NO_LOGS = [
    None, 0, "", "1/2", {}, {(1, 2): 0}, (1, 2), [1, 2], ((1, 2), 3), [(1, 2), [1, 2]], ((1, 2), (2, 4)), [(2, 2)],
    [(0, 2)], [(1, 0)], [(1, -1)], [(True, 1)], [(1, True)], [None], ["1/2"], [()], [(1, 2, 3)], [[(1, 2)]],
    deep(40), deep(40, True), [(1, 2), deep(38)], range(0), iter([]), {(1, 2): 0}.keys(),
]


def fits(machine, run, log):
    return [Fraction(*share) for share in shares(machine, run)] == [Fraction(*share) for share in log]


def triple_of(machine, run):
    tries = sum(machine.events[number][2] for number in run)
    points = sum(machine.events[number][3] for number in run)
    return (machine.events[run[-1]][1] if run else 0, tries, points)


def plain_account(machine, log):
    """The sets of the triples of all beginnings of a log."""
    found = [{(0, 0, 0)}]
    for share in log:
        found.append({
            (one[1], tries + one[2], points + one[3])
            for standing, tries, points in found[-1] for one in machine.events
            if one[0] == standing and Fraction(points + one[3], tries + one[2]) == Fraction(*share)
        })
    return found


class LogsCase(unittest.TestCase):

    def check_fitting(self, machine, log, due):
        told = fitting(machine, log)
        self.assertIs(type(told), list)
        self.assertTrue(all(type(triple) is tuple for triple in told))
        self.assertEqual(told, sorted(due))

    def check_next(self, machine, log, due):
        told = next_shares(machine, log)
        self.assertIs(type(told), list)
        self.assertEqual(told, [(share.numerator, share.denominator) for share in sorted(due)])


class AgainstAllRuns(LogsCase):

    def drawn_logs(self, machine, runs, source):
        """Logs that fit, logs that fit but for one share, and others."""
        for _ in range(6):
            log = shares(machine, source.choice(runs))
            yield log
            if log:
                log = list(log)
                log[source.randrange(len(log))] = source.choice(SHARES + log)
                yield tuple(log)
        yield [source.choice(SHARES) for _ in range(source.randint(0, 4))]

    def test_up_to_four_events(self):
        source = random.Random(261)
        wrong = 0
        for machine in [H, T, S, EMPTY, KNOTTED, LINKED, GREAT] + random_machines(262, 60, 4, 7) + knotted_machines(263, 8):
            runs = runs_of(machine, 4)
            if len(runs) > 4000:
                runs = runs_of(machine, 3)
            for log in self.drawn_logs(machine, runs, source):
                fitted = [run for run in runs if fits(machine, run, log)]
                self.check_fitting(machine, log, {triple_of(machine, run) for run in fitted})
                due = None
                if not fitted:
                    due = max(
                        len(log[:k]) for k in range(len(log))
                        if any(fits(machine, run, log[:k]) for run in runs))
                    wrong += 1
                self.assertEqual(first_wrong(machine, log), due)
                self.check_next(machine, log, {
                    Fraction(triple_of(machine, run)[2] + one[3], triple_of(machine, run)[1] + one[2])
                    for run in fitted for one in machine.events if one[0] == triple_of(machine, run)[0]
                })
                for share in source.sample(SHARES + GREAT_SHARES, 3):
                    for way in WAYS:
                        due = bool(fitted) and all(leaps_in(machine, share, way, run) for run in fitted)
                        self.assertIs(surely_leapt(machine, log, share, way), due)
        self.assertGreater(wrong, 100)

    def test_long_logs(self):
        source = random.Random(264)
        for machine in [H, T, S, LINKED] + random_machines(265, 15, 3, 6, 3, 3):
            run, standing = [], 0
            for _ in range(40):
                here = [k for k, one in enumerate(machine.events) if one[0] == standing]
                if here:
                    run.append(source.choice(here))
                    standing = machine.events[run[-1]][1]
            log = shares(machine, tuple(run))
            account = plain_account(machine, log)
            self.check_fitting(machine, log, account[-1])
            self.assertIn(triple_of(machine, run), fitting(machine, log))
            self.assertIsNone(first_wrong(machine, tuple(log)))
            for way in WAYS:
                for share in SHARES[:4]:
                    self.assertIs(surely_leapt(machine, log, share, way), leaps_in(machine, share, way, run))


class ByHand(LogsCase):

    def test_the_empty_log(self):
        for log in ([], ()):
            for machine in (H, EMPTY, GREAT):
                self.assertEqual(fitting(machine, log), [(0, 0, 0)])
                self.assertIsNone(first_wrong(machine, log))
                for way in WAYS:
                    self.assertIs(surely_leapt(machine, log, (1, 2), way), False)
            self.assertEqual(next_shares(H, log), [(0, 1), (1, 1)])
            self.assertEqual(next_shares(EMPTY, log), [])

    def test_hits(self):
        self.assertEqual(fitting(H, [(1, 1), (1, 2), (2, 3)]), [(0, 3, 2)])
        self.assertEqual(next_shares(H, ((1, 1), (1, 2), (2, 3))), [(1, 2), (3, 4)])
        self.assertEqual(first_wrong(H, [(1, 1), (1, 2), (1, 2)]), 2)
        self.assertEqual(first_wrong(H, [(1, 3)]), 0)
        self.assertEqual(fitting(H, [(1, 1), (1, 3)]), [])
        self.assertEqual(next_shares(H, [(1, 1), (1, 3)]), [])
        self.assertIs(surely_leapt(H, [(1, 1), (1, 2), (2, 3)], (3, 4), "down"), True)
        self.assertIs(surely_leapt(H, [(1, 1), (1, 2), (2, 3)], (3, 5), "up"), True)
        self.assertIs(surely_leapt(H, [(1, 1), (1, 2), (2, 3)], (3, 5), "down"), True)
        self.assertIs(surely_leapt(H, [(1, 1), (1, 2), (2, 3)], (1, 2), "up"), False)
        self.assertIs(surely_leapt(H, [(1, 1), (1, 2), (2, 3)], (2, 3), "up"), False)
        # The log that no run fits would have leapt.
        self.assertIs(surely_leapt(H, [(1, 1), (0, 1)], (1, 2), "down"), False)
        # The first event leaps over nothing: ahead of it nothing is shown.
        self.assertIs(surely_leapt(H, [(1, 1)], (1, 2), "up"), False)

    def test_several_triples(self):
        machine = Machine(2, ((0, 0, 1, 1), (0, 0, 2, 2), (0, 1, 1, 1), (1, 0, 3, -3), (1, 1, 2, 2)))
        self.assertEqual(fitting(machine, [(1, 1), (1, 1)]), [(0, 2, 2), (0, 3, 3), (0, 4, 4), (1, 2, 2), (1, 3, 3)])
        self.assertEqual(next_shares(machine, [(1, 1)]), [(-1, 2), (1, 1)])

    def test_order_of_next_shares(self):
        machine = Machine(1, ((0, 0, 3, 1), (0, 0, 2, 1), (0, 0, 1, -1), (0, 0, 40, 1), (0, 0, 39, 1), (0, 0, 6, 2)))
        self.assertEqual(next_shares(machine, []), [(-1, 1), (1, 40), (1, 39), (1, 3), (1, 2)])

    def test_great_shares(self):
        for share in GREAT_SHARES:
            self.assertEqual(fitting(H, [share]), [])
            self.assertEqual(first_wrong(H, [(1, 1), share]), 1)
            self.assertEqual(next_shares(H, [share]), [])
        self.assertIs(surely_leapt(H, [(1, 1), (1, 2)], (10 ** 29, 10 ** 29 + 1), "down"), True)
        self.assertIs(surely_leapt(H, [(1, 1), (1, 2)], (10 ** 29 + 1, 10 ** 29), "down"), False)


class TooManyTriples(LogsCase):

    def check_bound(self, machine, log):
        """Whether TooMany(5000) comes just where a beginning has more triples, for each beginning of a log."""
        raised = 0
        account = plain_account(machine, log)
        for k in range(len(log) + 1):
            calls = [
                lambda: fitting(machine, log[:k]), lambda: first_wrong(machine, log[:k]),
                lambda: next_shares(machine, log[:k]), lambda: surely_leapt(machine, log[:k], (1, 2), "up"),
            ]
            if max(len(triples) for triples in account[:k + 1]) > 5000:
                raised += 1
                for call in calls:
                    with self.assertRaises(TooMany) as caught:
                        call()
                    self.assertEqual(caught.exception.most, 5000)
            else:
                self.check_fitting(machine, log[:k], account[k])
                self.assertEqual(first_wrong(machine, log[:k]), None if account[k] else k - 1)
                self.assertIs(calls[3](), False)
        return raised

    def test_without_points(self):
        log = [(0, 1)] * 40
        self.assertGreater(self.check_bound(IDLE, log), 5)
        self.assertGreater(self.check_bound(shifted(IDLE, 7), [(7, 1)] * 40), 5)
        # Where too many triples fit a beginning, it does not matter what comes behind.
        self.assertRaises(TooMany, fitting, IDLE, log[:39] + [(1, 1)])
        self.assertRaises(TooMany, first_wrong, IDLE, log[:39] + [(1, 1)])
        few = Machine(12, IDLE.events[:12])
        self.assertEqual(self.check_bound(few, log), 0)
        self.assertEqual(first_wrong(IDLE, [(0, 1)] * 3 + [(1, 1)] + log[:36]), 3)

    def test_just_five_thousand(self):
        for many, raised in ((5000, 0), (5001, 1)):
            # A machine of any size, as functions return them.
            machine = made(many + 1, tuple((0, k + 1, 1, 0) for k in range(many)))
            self.assertEqual(self.check_bound(machine, [(0, 1)]), raised)
            self.assertEqual(self.check_bound(machine, [(0, 1), (0, 1)]), 2 * raised)


class Errors(unittest.TestCase):

    def test_no_log(self):
        for log in NO_LOGS + [[thing] for thing in NO_SHARES + odd_things()[:20]]:
            for machine in (H, IDLE):
                self.assertRaises(NoLog, fitting, machine, log)
                self.assertRaises(NoLog, first_wrong, machine, log)
                self.assertRaises(NoLog, next_shares, machine, log)
                self.assertRaises(NoLog, surely_leapt, machine, log, None, None)
        for log in odd_things():
            if not (isinstance(log, (list, tuple)) and not log):
                self.assertRaises(NoLog, fitting, H, log)
                self.assertRaises(NoLog, surely_leapt, H, log, None, None)

    def test_forty_and_forty_one(self):
        log = [(1, 1)] * 40
        self.assertEqual(fitting(H, log), [(0, 40, 40)])
        self.assertEqual(fitting(H, tuple(log)), [(0, 40, 40)])
        self.assertEqual(next_shares(H, log), [(40, 41), (1, 1)])
        for longer in (log + [(1, 1)], tuple(log) + ((0, 1),), [(0, 1)] * 9000):
            for told in (fitting, first_wrong, next_shares):
                self.assertRaises(NoLog, told, H, longer)
                self.assertRaises(NoLog, told, IDLE, longer)
            self.assertRaises(NoLog, surely_leapt, H, longer, None, None)

    def test_errors_of_surely_leapt_in_their_order(self):
        for log in ([], [(1, 1)], [(0, 1)] * 40):
            for machine in (H, IDLE):
                for share in NO_SHARES + odd_things():
                    self.assertRaises(NoShare, surely_leapt, machine, log, share, None)
                for way in NO_WAYS + odd_things():
                    self.assertRaises(NoWay, surely_leapt, machine, log, (1, 2), way)

    def test_nothing_is_changed(self):
        log = [(1, 1), (1, 2), (2, 3)]
        for told in (fitting, first_wrong, next_shares):
            told(H, log)
        surely_leapt(H, log, (1, 2), "up")
        self.assertEqual(log, [(1, 1), (1, 2), (2, 3)])
        for told in (fitting, next_shares):
            told(H, log).append(None)
            told(H, []).clear()
            self.assertNotIn(None, told(H, log))
            self.assertTrue(told(H, []))


class Likenesses(LogsCase):

    def test_changed_machines(self):
        source = random.Random(266)
        for machine in [H, T, S, LINKED, GREAT] + random_machines(267, 25, 4, 7):
            runs = runs_of(machine, 3)
            for _ in range(3):
                log = shares(machine, source.choice(runs))
                if source.random() < 0.3:
                    log.append(source.choice(SHARES))
                share, way, seed = source.choice(SHARES), source.choice(WAYS), source.random()
                for name, other, changed, turned, _ in likenesses(machine, share, way, seed):
                    others = [changed_share(name, machine, one, seed) for one in log]
                    self.assertEqual(
                        [triple[:2] for triple in fitting(other, others)], [triple[:2] for triple in fitting(machine, log)])
                    self.assertEqual(first_wrong(other, others), first_wrong(machine, log))
                    self.assertIs(
                        surely_leapt(other, others, changed, turned), surely_leapt(machine, log, share, way))
                    due = [changed_share(name, machine, one, seed) for one in next_shares(machine, log)]
                    self.check_next(other, others, {Fraction(*one) for one in due})

    def test_returned_machines(self):
        for machine in (shifted(scaled(KNOTTED, 1000), -1000), bundled(T, 2), parted(KNOTTED, 7, 3, 2), spoken(PHRASES[18])):
            for run in runs_of(machine, 3):
                log = shares(machine, run)
                self.check_fitting(machine, log, plain_account(machine, log)[-1])


if __name__ == "__main__":
    unittest.main()
