"""8.1 and 8.2: what runs show between two boards."""

import random
import unittest
from fractions import Fraction

from neverleapt.betweens import between, often, often_run, surely_met
from neverleapt.changes import bundled, parted, scaled, shifted
from neverleapt.errors import NoBoard, NoFlag, NoShare, TooMany
from neverleapt.machines import Machine, boards, is_run
from neverleapt.phrases import spoken
from tests.phrasesamples import HIT, MISS, event
from tests.samples import EMPTY, H, KNOTTED, LINKED, NO_SHARES, S, T, deep, odd_things, random_machines
from tests.slow import GREAT_SHARES

SHARES = [(0, 1), (1, 1), (1, 2), (-1, 1), (1, 3), (2, 3), (-1, 2), (2, 1)]
NO_PAIRS = odd_things() + [
    "", "00", 0, (), (0,), (0, 0, 0), [0, 0], [1, 1], (True, 1), (1, True), (False, 0), (0, False), (None, 0), (1, None),
    ("1", 1), (1, "1"), ((1, 1),), ((1,), 1), deep(40),
]
NO_FIRSTS = NO_PAIRS + [(-1, 0), (-1, -1), (0, 1), (0, -1), (0, 10 ** 39), (-10 ** 39, 0)]


def runs_within(machine, tries):
    """All runs with at most so many tries, each with its boards from (0, 0) on, and None if there are too many."""
    found = [((), 0, ((0, 0),))]
    newest = found
    while newest:
        newest = [
            (run + (number,), one[1], shown + ((shown[-1][0] + one[2], shown[-1][1] + one[3]),))
            for run, standing, shown in newest
            for number, one in enumerate(machine.events)
            if one[0] == standing and shown[-1][0] + one[2] <= tries
        ]
        found = found + newest
        if len(found) > 20000:
            return None
    return found


def shown_between(runs, first, last):
    """For each run from the first board to the last the list of the shares that it shows between."""
    found = []
    for _, _, shown in runs:
        if shown[-1] == last and first in shown[:-1]:
            found.append([Fraction(board[1], board[0]) for board in shown[shown.index(first):] if board[0]])
    return found


class BetweensCase(unittest.TestCase):

    def check(self, machine, first, last, share, lists):
        """Everything that is told, lists being the shares that each run shows between."""
        counts = [shown.count(Fraction(*share)) for shown in lists]
        due = (min(counts), max(counts)) if counts else None
        self.assertEqual(often(machine, first, last, share), due)
        if due is None:
            word = "none"
        elif due[0] > 0:
            word = "surely"
        else:
            word = "open" if due[1] else "never"
        self.assertEqual(between(machine, first, last, share), word)
        for most in (False, True):
            run = often_run(machine, first, last, share, most)
            if due is None:
                self.assertIsNone(run)
            else:
                self.check_run(machine, first, last, share, run, due[most])
        return word

    def check_run(self, machine, first, last, share, run, many):
        self.assertIs(type(run), tuple)
        self.assertIs(is_run(machine, run), True)
        shown = [(0, 0)] + boards(machine, run)
        self.assertEqual(shown[-1], last)
        self.assertIn(first, shown[:-1])
        told = [Fraction(points, tries) for tries, points in shown[shown.index(first):] if tries]
        self.assertEqual(told.count(Fraction(*share)), many)

    def check_surely(self, machine, first, last, lists):
        due = sorted(set.intersection(*(set(shown) for shown in lists))) if lists else []
        told = surely_met(machine, first, last)
        self.assertIs(type(told), list)
        self.assertEqual(told, [(share.numerator, share.denominator) for share in due])


class AgainstAllRuns(BetweensCase):

    def test_random_machines(self):
        source = random.Random(151)
        words = {}
        for machine in [H, T, S, LINKED, KNOTTED, EMPTY] + random_machines(152, 350, 4, 5, 3, 2):
            runs = runs_within(machine, source.randint(3, 7))
            if runs is None:
                continue
            for _ in range(6):
                shown = source.choice(runs)[2]
                first = source.choice(shown)
                last = shown[-1] if first[0] < shown[-1][0] else (first[0] + 1, first[1] + source.randint(-1, 1))
                if source.random() < 0.1:
                    first = (first[0] + 1, first[1] + source.randint(-1, 1))
                    last = (first[0] + 1, first[1])
                if last[0] > max(one[2][-1][0] for one in runs):
                    continue
                lists = shown_between(runs, first, last)
                self.check_surely(machine, first, last, lists)
                chosen = source.sample(SHARES, 2) + [
                    (share.numerator, share.denominator) for shown in lists[:1] for share in shown[:1] + shown[-1:]]
                for share in chosen:
                    word = self.check(machine, first, last, share, lists)
                    words[word] = words.get(word, 0) + 1
        self.assertTrue(all(words[word] > 50 for word in ("none", "surely", "never", "open")), words)

    def test_shares_shown_several_times(self):
        # Points from -1 to 1, so that nothing is shown again and again.
        source = random.Random(153)
        great = 0
        for machine in random_machines(154, 120, 3, 5, 2, 1):
            runs = runs_within(machine, 7)
            if runs is None:
                continue
            for tries in (4, 5, 6, 7):
                for points in (0, 1):
                    lists = shown_between(runs, (0, 0), (tries, points))
                    self.check(machine, (0, 0), (tries, points), source.choice([(0, 1), (0, 1), (1, 2), (1, 1)]), lists)
                    great = max([great] + [shown.count(0) for shown in lists])
        self.assertGreater(great, 4)

    def test_great_shares(self):
        for machine in [H, KNOTTED, LINKED] + random_machines(155, 10):
            runs = runs_within(machine, 5) or []
            for _, _, shown in runs[:40]:
                if len(shown) > 2:
                    lists = shown_between(runs, shown[1], shown[-1])
                    for share in GREAT_SHARES:
                        self.check(machine, shown[1], shown[-1], share, lists)


class ByHand(BetweensCase):

    def test_the_first_board_and_the_last_count(self):
        for share, counts in (((1, 2), (1, 1)), ((2, 3), (0, 1)), ((1, 3), (0, 1)), ((1, 1), (0, 0)), ((0, 1), (0, 0))):
            self.assertEqual(often(H, (2, 1), (4, 2), share), (counts[0] + (share == (1, 2)), counts[1] + (share == (1, 2))))
        self.assertEqual(between(H, (2, 1), (3, 2), (1, 2)), "surely")
        self.assertEqual(between(H, (2, 1), (3, 2), (2, 3)), "surely")
        self.assertEqual(surely_met(H, (2, 1), (4, 2)), [(1, 2)])
        self.assertEqual(surely_met(H, (2, 1), (3, 2)), [(1, 2), (2, 3)])

    def test_the_begin_does_not_count(self):
        self.assertEqual(often(H, (0, 0), (1, 1), (0, 1)), (0, 0))
        self.assertEqual(often(H, (0, 0), (1, 0), (0, 1)), (1, 1))
        self.assertEqual(often(H, (0, 0), (3, 0), (0, 1)), (3, 3))
        self.assertEqual(often(H, (1, 0), (3, 0), (0, 1)), (3, 3))
        self.assertEqual(surely_met(H, (0, 0), (1, 1)), [(1, 1)])
        self.assertEqual(surely_met(H, (0, 0), (2, 1)), [(1, 2)])

    def test_no_such_run(self):
        for first, last in (
            ((2, 3), (5, 4)), ((2, -1), (5, 0)), ((2, 1), (3, 3)), ((2, 1), (3, 0)), ((0, 0), (3, 4)), ((0, 0), (3, -1)),
            ((7, 10 ** 39), (8, 10 ** 39)), ((1, 1), (2, -10 ** 39)), ((2, 2), (300, 1)),
        ):
            self.check(H, first, last, (1, 2), [])
            self.check_surely(H, first, last, [])
        self.check(EMPTY, (0, 0), (1, 0), (0, 1), [])
        self.check_surely(EMPTY, (0, 0), (1, 0), [])
        # The first board is shown, but only at a standing from which nothing leads to the last one.
        machine = Machine(3, ((0, 1, 1, 1), (0, 2, 1, 0), (1, 1, 1, 0), (2, 2, 1, 1)))
        self.check(machine, (1, 1), (2, 2), (1, 1), [])
        self.assertEqual(often(machine, (1, 1), (2, 1), (1, 1)), (1, 1))

    def test_several_standings_at_the_first_board(self):
        machine = Machine(3, ((0, 1, 1, 1), (0, 2, 1, 1), (1, 1, 1, 2), (2, 2, 1, 0), (1, 1, 1, 1), (2, 2, 2, 1)))
        runs = runs_within(machine, 6)
        for tries in range(2, 7):
            for points in range(0, 9):
                lists = shown_between(runs, (1, 1), (tries, points))
                for share in ((1, 1), (1, 2), (3, 2), (0, 1)):
                    self.check(machine, (1, 1), (tries, points), share, lists)
                self.check_surely(machine, (1, 1), (tries, points), lists)

    def test_up_to_300_tries(self):
        self.assertEqual(often(H, (0, 0), (300, 150), (1, 2)), (1, 150))
        self.assertEqual(often(H, (2, 1), (300, 150), (1, 2)), (2, 150))
        self.assertEqual(often(H, (1, 0), (300, 299), (1, 2)), (1, 1))
        self.assertEqual(often(H, (0, 0), (300, 100), (1, 3)), (1, 100))
        for most, many in ((False, 1), (True, 150)):
            self.check_run(H, (0, 0), (300, 150), (1, 2), often_run(H, (0, 0), (300, 150), (1, 2), most), many)
        self.assertEqual(surely_met(H, (1, 0), (300, 299)), [(0, 1)] + [(k, k + 1) for k in range(1, 300)])
        self.assertEqual(surely_met(H, (0, 0), (300, 300)), [(1, 1)])
        self.assertEqual(between(H, (299, 10), (300, 11), (10 ** 29 + 1, 10 ** 29)), "never")

    def test_greatest_machines(self):
        crowd = Machine(12, tuple((k % 12, (7 * k + k // 12) % 12, 1, (97 * k) % 801 - 400) for k in range(30)))
        self.assertEqual(between(crowd, (0, 0), (300, 0), (1, 3)), "open")
        least, greatest = often(crowd, (0, 0), (300, 0), (0, 1))
        self.assertEqual(least, 1)
        for most, many in ((False, least), (True, greatest)):
            self.check_run(crowd, (0, 0), (300, 0), (0, 1), often_run(crowd, (0, 0), (300, 0), (0, 1), most), many)
        self.assertEqual(surely_met(crowd, (0, 0), (300, 0)), [(0, 1)])
        great = Machine(12, tuple((k % 12, (5 * k + 1) % 12, 11 + k, (97 * k) % 801 - 400) for k in range(30)))
        run, standing = (), 0
        for _ in range(7):
            number = [number for number, one in enumerate(great.events) if one[0] == standing][-1]
            run, standing = run + (number,), great.events[number][1]
        first, last = boards(great, run)[0], boards(great, run)[-1]
        self.assertIn(last[0], range(150, 301))
        share = Fraction(last[1], last[0])
        self.assertEqual(between(great, first, last, (share.numerator, share.denominator)), "surely")
        self.assertIn((share.numerator, share.denominator), surely_met(great, first, last))

    def test_returned_machines(self):
        for first, last, share in (((0, 0), (6, 3), (1, 2)), ((2, 1), (8, 4), (1, 2)), ((2, 2), (7, 3), (2, 3))):
            due = often(T, first, last, share)
            self.assertEqual(often(
                shifted(T, 1000), (first[0], first[1] + 1000 * first[0]), (last[0], last[1] + 1000 * last[0]),
                (share[0] + 1000 * share[1], share[1])), due)
            great = scaled(scaled(T, 1000), 1000)
            there = Fraction(share[0] * 10 ** 6, share[1])
            self.assertEqual(often(
                great, (first[0], first[1] * 10 ** 6), (last[0], last[1] * 10 ** 6), (there.numerator, there.denominator)
            ), due)
        machines = [
            parted(parted(Machine(2, ((0, 1, 2, 1), (1, 0, 2, 0), (0, 0, 1, 0))), 0, 1, 10 ** 39), 1, 1, -10 ** 39),
            spoken(("again", ("either", (HIT, ("row", (MISS, MISS, event(2, 1))))))), bundled(T, 2), bundled(S, 2),
        ]
        for machine in machines:
            runs = runs_within(machine, 6)
            for _, _, shown in runs[1:200:7]:
                for first in shown[:2]:
                    if first != shown[-1]:
                        lists = shown_between(runs, first, shown[-1])
                        self.check(machine, first, shown[-1], (1, 2), lists)
                        self.check(machine, first, shown[-1], (0, 1), lists)
                        self.check_surely(machine, first, shown[-1], lists)

    def test_example_e10(self):
        self.assertEqual(between(H, (4, 1), (30, 27), (1, 2)), "surely")
        self.assertEqual(between(H, (2, 1), (6, 5), (7, 10)), "never")


class Errors(unittest.TestCase):

    def calls(self, first, last, share):
        """All functions, each with what is wrong behind the share, too."""
        return [
            (between, H, first, last, share), (often, H, first, last, share), (often_run, H, first, last, share, None),
            (often_run, H, first, last, share, True),
        ]

    def test_no_first_board(self):
        for thing in NO_FIRSTS:
            with self.subTest(str(thing)[:40]):
                for call in self.calls(thing, (4, 2), (1, 2)) + self.calls(thing, None, None):
                    self.assertRaises(NoBoard, *call)
                self.assertRaises(NoBoard, surely_met, H, thing, (4, 2))
                self.assertRaises(NoBoard, surely_met, H, thing, (301, 2))

    def test_no_last_board(self):
        for thing in NO_PAIRS + [(2, 1), (2, 2), (1, 1), (0, 0), (-1, 0), (-10 ** 39, 0)]:
            with self.subTest(str(thing)[:40]):
                for call in self.calls((2, 1), thing, (1, 2)) + self.calls((2, 1), thing, None):
                    self.assertRaises(NoBoard, *call)
                self.assertRaises(NoBoard, surely_met, H, (2, 1), thing)
        self.assertRaises(NoBoard, surely_met, H, (400, 1), (399, 1))
        self.assertRaises(NoBoard, between, H, (0, 0), (0, 0), (1, 2))

    def test_no_share(self):
        for thing in odd_things() + NO_SHARES:
            with self.subTest(str(thing)[:40]):
                for call in self.calls((2, 1), (4, 2), thing) + self.calls((2, 1), (301, 2), thing):
                    self.assertRaises(NoShare, *call)

    def test_no_flag(self):
        for thing in odd_things() + ["", "True", 0, 1, (), (True,), deep(40)]:
            if thing is not True and thing is not False:
                with self.subTest(str(thing)[:40]):
                    self.assertRaises(NoFlag, often_run, H, (2, 1), (4, 2), (1, 2), thing)
                    self.assertRaises(NoFlag, often_run, H, (2, 1), (301, 2), (1, 2), thing)

    def test_too_many(self):
        for tries in (301, 302, 10 ** 39):
            for call in [
                (between, H, (2, 1), (tries, 2), (1, 2)), (often, H, (0, 0), (tries, 2), (1, 2)),
                (often_run, H, (2, 1), (tries, 2), (1, 2), False), (surely_met, H, (300, 1), (tries, 2)),
                (surely_met, EMPTY, (0, 0), (tries, 2)),
            ]:
                with self.assertRaises(TooMany) as caught:
                    call[0](*call[1:])
                self.assertEqual(caught.exception.most, 300)

    def test_nothing_is_changed(self):
        first = surely_met(H, (1, 0), (9, 8))
        first.append(None)
        self.assertEqual(surely_met(H, (1, 0), (9, 8)), first[:-1])
        self.assertEqual(often_run(T, (0, 0), (9, 4), (1, 2), True), often_run(T, (0, 0), (9, 4), (1, 2), True))
        self.assertEqual(T.events, ((0, 1, 1, 1), (0, 1, 1, 0), (1, 0, 1, 1), (1, 0, 1, 0)))


if __name__ == "__main__":
    unittest.main()
