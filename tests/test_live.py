"""13.1: boards that are led live."""

import random
import unittest
from fractions import Fraction

from neverleapt.changes import bundled, shifted
from neverleapt.errors import LeapError, NoEvent, NoShare, NotHere, NothingDone, NoWay
from neverleapt.leaping import is_leap, leaps, meets
from neverleapt.live import Board
from neverleapt.machines import Machine, boards, ends_at, shares
from neverleapt.phrases import spoken
from tests.likeness import likenesses
from tests.phrasesamples import PHRASES
from tests.samples import (
    EMPTY, H, KNOTTED, LINKED, NO_SHARES, NO_WAYS, S, T, deep, knotted_machines, odd_things, random_machines,
)
from tests.slow import GREAT_SHARES, SHARES, lift

WAYS = ("up", "down")
GREAT = Machine(12, tuple(
    (k % 12, (5 * k + 1) % 12, 1 + 7 * k % 40, 400 - 37 * k % 801) for k in range(30)))


class Account:
    """A plain account of a board of its own: the run so far, gone through anew for each answer."""

    def __init__(self, machine, run=()):
        self.machine = machine
        self.run = tuple(run)

    def standing(self):
        return self.machine.events[self.run[-1]][1] if self.run else 0

    def shown(self):
        return (
            sum(self.machine.events[number][2] for number in self.run),
            sum(self.machine.events[number][3] for number in self.run),
        )

    def can_come(self):
        return [k for k, event in enumerate(self.machine.events) if event[0] == self.standing()]

    def values(self, share, run):
        found = [0]
        for number in run:
            found.append(found[-1] + lift(share, self.machine.events[number]))
        return found

    def leapt(self, share, way, run=None):
        sign = 1 if way == "up" else -1
        found = self.values(share, self.run if run is None else run)
        return sum(sign * one < 0 < sign * other for one, other in zip(found, found[1:]))

    def met(self, share):
        return self.values(share, self.run)[1:].count(0)

    def can_leap(self, share, way):
        return any(self.leapt(share, way, self.run + (k,)) > self.leapt(share, way) for k in self.can_come())


class LiveCase(unittest.TestCase):

    def check(self, board, account, chosen=SHARES[:3]):
        tries, points = account.shown()
        self.assertEqual(board.shown(), (tries, points))
        self.assertIs(type(board.shown()), tuple)
        share = board.share()
        if tries:
            due = Fraction(points, tries)
            self.assertEqual(share, (due.numerator, due.denominator))
        else:
            self.assertIsNone(share)
        self.assertEqual(board.standing(), account.standing())
        self.assertEqual(board.past(), account.run)
        self.assertIs(type(board.past()), tuple)
        self.assertEqual(board.can_come(), account.can_come())
        self.assertIs(type(board.can_come()), list)
        for one in chosen:
            self.assertEqual(board.met(one), account.met(one))
            for way in WAYS:
                self.assertEqual(board.leapt(one, way), account.leapt(one, way))
                self.assertIs(board.can_leap(one, way), account.can_leap(one, way))

    def led(self, machine, run):
        board = Board(machine)
        for number in run:
            self.assertIsNone(board.come(number))
        return board


class Drawn(LiveCase):

    def machines(self):
        return [H, T, S, EMPTY, KNOTTED, LINKED, GREAT, spoken(PHRASES[18]), bundled(T, 2), shifted(KNOTTED, 1000)] + \
            random_machines(271, 40, 4, 8) + knotted_machines(272, 5)

    def test_forth_and_back(self):
        source = random.Random(273)
        leapt = met = able = 0
        for machine in self.machines():
            board, account = Board(machine), Account(machine)
            chosen = source.sample(SHARES, 3) + [source.choice(GREAT_SHARES)]
            for _ in range(50):
                self.check(board, account, chosen)
                if source.random() < 0.25:
                    if account.run:
                        self.assertIsNone(board.back())
                        account.run = account.run[:-1]
                    else:
                        self.assertRaises(NothingDone, board.back)
                elif account.can_come():
                    number = source.choice(account.can_come())
                    self.assertIsNone(board.come(number))
                    account.run += (number,)
                    tries, points = account.shown()
                    due = Fraction(points, tries)
                    chosen[0] = (due.numerator, due.denominator)
                leapt += account.leapt(chosen[1], "up")
                met += account.met(chosen[0])
                able += account.can_leap(chosen[1], "down") + account.can_leap(chosen[2], "up")
            self.check(board, account, chosen)
        self.assertGreater(min(leapt, met, able), 40)

    def test_copies(self):
        source = random.Random(274)
        for machine in self.machines():
            pairs = [(Board(machine), Account(machine))]
            for _ in range(30):
                board, account = source.choice(pairs)
                word = source.random()
                if word < 0.2 and len(pairs) < 5:
                    other = board.copy()
                    self.assertIs(type(other), Board)
                    self.assertIsNot(other, board)
                    pairs.append((other, Account(machine, account.run)))
                elif word < 0.5:
                    # Back, perhaps to ahead of the copying.
                    if account.run:
                        board.back()
                        account.run = account.run[:-1]
                    else:
                        self.assertRaises(NothingDone, board.back)
                elif account.can_come():
                    number = source.choice(account.can_come())
                    board.come(number)
                    account.run += (number,)
            for board, account in pairs:
                self.check(board, account)

    def test_same_as_told_of_the_run(self):
        source = random.Random(275)
        for machine in self.machines():
            account = Account(machine)
            while len(account.run) < 12 and account.can_come():
                account.run += (source.choice(account.can_come()),)
            run = account.run
            board = self.led(machine, run)
            self.assertEqual(board.standing(), ends_at(machine, run))
            self.assertEqual([board.shown()], boards(machine, run)[-1:] or [(0, 0)])
            self.assertEqual([board.share()], shares(machine, run)[-1:] or [None])
            for share in SHARES[:4] + GREAT_SHARES[:2]:
                self.assertEqual(board.met(share), len(meets(machine, share, run)))
                for way in WAYS:
                    self.assertEqual(board.leapt(share, way), len(leaps(machine, share, way, run)))
                    self.assertIs(board.can_leap(share, way), any(
                        is_leap(machine, share, way, run + (number,)) for number in board.can_come()))

    def test_likenesses(self):
        source = random.Random(276)
        for machine in self.machines():
            if not 0 < len(machine.events) <= 30 or machine.standings > 12 or max(map(abs, machine.events[0])) > 400:
                continue
            account = Account(machine)
            while len(account.run) < 8 and account.can_come():
                account.run += (source.choice(account.can_come()),)
            share, way = source.choice(SHARES), source.choice(WAYS)
            board = self.led(machine, account.run)
            for _, other, changed, turned, names in likenesses(machine, share, way, source.random()):
                board_of_other = self.led(other, [names[number] for number in account.run])
                self.assertEqual(board_of_other.leapt(changed, turned), board.leapt(share, way))
                self.assertEqual(board_of_other.met(changed), board.met(share))
                self.assertIs(board_of_other.can_leap(changed, turned), board.can_leap(share, way))
                self.assertEqual(board_of_other.can_come(), sorted(names[number] for number in board.can_come()))


class ByHand(LiveCase):

    def test_the_begin(self):
        board = Board(T)
        self.assertEqual((board.shown(), board.share(), board.standing(), board.past()), ((0, 0), None, 0, ()))
        self.assertEqual(board.can_come(), [0, 1])
        self.assertEqual((board.met((0, 1)), board.leapt((0, 1), "up")), (0, 0))
        # Nothing is below at the begin, so nothing can be leapt.
        for way in WAYS:
            self.assertIs(board.can_leap((1, 2), way), False)

    def test_a_share_of_nothing(self):
        board = self.led(H, [1])
        self.assertEqual((board.shown(), board.share()), ((1, 0), (0, 1)))

    def test_leaps_and_showings(self):
        board = self.led(H, [0, 1, 1])
        self.assertEqual(board.share(), (1, 3))
        self.assertEqual((board.leapt((2, 3), "down"), board.leapt((2, 3), "up"), board.leapt((1, 2), "down")), (1, 0, 0))
        self.assertEqual((board.met((1, 2)), board.met((2, 3)), board.met((1, 3)), board.met((1, 1))), (1, 0, 1, 1))
        self.assertIs(board.can_leap((2, 5), "up"), True)
        self.assertIs(board.can_leap((1, 2), "up"), False)
        self.assertIs(board.can_leap((3, 10), "down"), True)
        self.assertIs(board.can_leap((1, 4), "down"), False)
        board.back()
        board.back()
        self.assertEqual((board.leapt((2, 3), "down"), board.met((1, 2)), board.past()), (0, 0, (0,)))

    def test_can_leap_where_nothing_can_come(self):
        board = self.led(Machine(2, ((0, 1, 1, -1), (0, 0, 1, 5))), [0])
        self.assertEqual(board.can_come(), [])
        self.assertIs(board.can_leap((0, 1), "up"), False)
        # What leads from elsewhere does not count.
        board = self.led(Machine(2, ((0, 1, 1, -1), (1, 1, 1, 1), (0, 0, 1, 5))), [0])
        self.assertIs(board.can_leap((0, 1), "up"), False)

    def test_lists_are_new(self):
        board = self.led(H, [0])
        board.can_come().clear()
        self.assertEqual(board.can_come(), [0, 1])
        self.assertIsNot(board.can_come(), board.can_come())

    def test_equal_to_nothing_else(self):
        self.assertFalse(Board(H) == H)
        self.assertFalse(Board(H) == ())
        self.assertFalse(H == Board(H))

    def test_many_events(self):
        board = Board(H)
        for k in range(3000):
            board.come(k % 2)
        self.assertEqual((board.shown(), board.met((1, 2)), board.leapt((3, 5), "down")), ((3000, 1500), 1500, 2))
        for _ in range(3000):
            board.back()
        self.assertRaises(NothingDone, board.back)
        self.assertEqual(board.past(), ())


class Errors(LiveCase):

    def test_no_event(self):
        for machine, last in ((H, 2), (KNOTTED, 10), (EMPTY, 0)):
            board = Board(machine)
            for thing in odd_things() + [-1, last, 10 ** 39, "0", "", (0,), [0], True, False, None, deep(40)]:
                self.assertRaises(NoEvent, board.come, thing)
            self.check(board, Account(machine))

    def test_not_here(self):
        board, account = self.led(T, [0]), Account(T, (0,))
        for number in (0, 1):
            self.assertRaises(NotHere, board.come, number)
            self.check(board, account)
        self.assertRaises(NoEvent, board.come, 4)
        self.assertRaises(NoEvent, board.come, True)
        board.come(2)
        self.check(board, Account(T, (0, 2)))
        board.back()
        self.check(board, account)

    def test_nothing_done(self):
        board = Board(H)
        self.assertRaises(NothingDone, board.back)
        board.come(0)
        self.assertRaises(LeapError, board.come, 2)
        board.back()
        self.assertRaises(NothingDone, board.back)
        self.check(board, Account(H))

    def test_no_share_then_no_way(self):
        for board in (Board(H), self.led(H, [0, 1, 1])):
            for share in NO_SHARES + odd_things():
                self.assertRaises(NoShare, board.leapt, share, None)
                self.assertRaises(NoShare, board.can_leap, share, None)
                self.assertRaises(NoShare, board.met, share)
            for way in NO_WAYS + odd_things():
                self.assertRaises(NoWay, board.leapt, (1, 2), way)
                self.assertRaises(NoWay, board.can_leap, (1, 2), way)


class Trying(LiveCase):

    def test_all_is_put_back(self):
        board = self.led(H, [0, 1])
        seen = []

        def action(tried):
            seen.append(tried)
            tried.come(0)
            tried.come(0)
            return tried.share()

        self.assertEqual(board.trying(action), (3, 4))
        self.assertIs(seen[0], board)
        self.check(board, Account(H, (0, 1)))

    def test_what_was_taken_back_within(self):
        board = self.led(H, [0, 1, 1])

        def action(tried):
            tried.back()
            tried.back()
            tried.come(0)
            self.check(tried, Account(H, (0, 0)))
            tried.back()
            tried.back()
            self.assertRaises(NothingDone, tried.back)
            tried.come(1)

        self.assertIsNone(board.trying(action))
        self.check(board, Account(H, (0, 1, 1)))
        board.back()
        self.check(board, Account(H, (0, 1)))

    def test_errors_go_on(self):
        board = self.led(T, [0])
        for error in (KeyError("x"), NotHere(), ZeroDivisionError(), KeyboardInterrupt()):

            def action(tried):
                tried.come(2)
                tried.back()
                tried.back()
                raise error

            with self.assertRaises(type(error)) as caught:
                board.trying(action)
            self.assertIs(caught.exception, error)
            self.check(board, Account(T, (0,)))
        self.assertRaises(NotHere, board.trying, lambda tried: tried.come(0))
        self.assertRaises(NoEvent, board.trying, lambda tried: [tried.come(2), tried.come(4)])
        self.check(board, Account(T, (0,)))

    def test_trials_within_trials(self):
        board = self.led(H, [0])

        def innermost(tried):
            tried.back()
            tried.back()
            tried.come(1)
            raise KeyError("innermost")

        def inner(tried):
            tried.come(0)
            self.assertRaises(KeyError, tried.trying, innermost)
            self.check(tried, Account(H, (0, 1, 0)))
            tried.back()
            return "inner"

        def outer(tried):
            tried.come(1)
            self.assertEqual(tried.trying(inner), "inner")
            self.check(tried, Account(H, (0, 1)))
            return tried.copy()

        kept = board.trying(outer)
        self.check(board, Account(H, (0,)))
        # A copy that was made within goes on by itself.
        self.check(kept, Account(H, (0, 1)))
        kept.come(1)
        board.come(0)
        self.check(kept, Account(H, (0, 1, 1)))
        self.check(board, Account(H, (0, 0)))

    def test_what_it_returns(self):
        board = Board(H)
        for thing in odd_things():
            self.assertIs(board.trying(lambda tried: thing), thing)
        self.assertIs(board.trying(lambda tried: tried), board)

    def test_drawn_trials(self):
        source = random.Random(277)

        def led_on(tried, run, depth):
            """Lead a board on as it comes, with trials within; tell how it stands then."""
            account = Account(tried_machine, run)
            for _ in range(source.randint(0, 8)):
                word = source.random()
                if word < 0.2 and depth < 4:
                    try:
                        tried.trying(lambda again: led_on(again, account.run, depth + 1))
                    except KeyError:
                        pass
                elif word < 0.5 and account.run:
                    tried.back()
                    account.run = account.run[:-1]
                elif account.can_come():
                    number = source.choice(account.can_come())
                    tried.come(number)
                    account.run += (number,)
                self.check(tried, account, [])
            if source.random() < 0.3:
                raise KeyError("drawn")

        for tried_machine in [H, T, KNOTTED, GREAT] + random_machines(278, 60, 3, 7):
            board = Board(tried_machine)
            for _ in range(3):
                if board.can_come():
                    board.come(source.choice(board.can_come()))
            run = board.past()
            try:
                board.trying(lambda tried: led_on(tried, run, 0))
            except KeyError:
                pass
            self.check(board, Account(tried_machine, run))


if __name__ == "__main__":
    unittest.main()
