"""1.1 and 1.2: machines, runs, boards, shares."""

import unittest
from fractions import Fraction
from itertools import product

from neverleapt.changes import mirrored, parted, scaled
from neverleapt.errors import BadMachine, NoRun
from neverleapt.machines import Machine, boards, ends_at, is_run, shares
from tests.samples import EMPTY, H, KNOTTED, T, deep, odd_things, random_machines, runs_of

RIGHT = (0, 0, 1, 1)


class MachineCase(unittest.TestCase):

    def check_bad(self, part, standings, events):
        with self.assertRaises(BadMachine) as caught:
            Machine(standings, events)
        self.assertEqual(caught.exception.part, part)
        self.assertIs(type(caught.exception.part), type(part))


class Sizes(MachineCase):

    def test_least_and_greatest(self):
        for standings in range(1, 13):
            self.assertEqual(Machine(standings, ()).standings, standings)
        for many in range(31):
            self.assertEqual(Machine(1, (RIGHT,) * many).events, (RIGHT,) * many)
        for event in ((0, 0, 1, -400), (0, 0, 40, 400), (0, 0, 40, 0), (11, 11, 1, 0), (0, 11, 7, 3), (11, 0, 7, 3)):
            self.assertEqual(Machine(12, (event,)).events, (event,))

    def test_standings_beyond(self):
        for standings in (0, -1, 13, 14, 10 ** 39, -10 ** 39):
            self.check_bad("standings", standings, ())

    def test_events_beyond(self):
        self.check_bad("events", 1, (RIGHT,) * 31)
        self.check_bad("events", 1, (None,) * 31)
        self.check_bad("events", 1, tuple([RIGHT]) * 9000)
        self.check_bad(0, 1, (None,) * 30)
        self.check_bad(29, 1, (RIGHT,) * 29 + (None,))

    def test_parts_of_events_beyond(self):
        wrong = [
            (-1, 0, 1, 1), (3, 0, 1, 1), (0, -1, 1, 1), (0, 3, 1, 1), (0, 0, 0, 1), (0, 0, 41, 1), (0, 0, -1, 1),
            (0, 0, 1, 401), (0, 0, 1, -401), (12, 0, 1, 1), (0, 12, 1, 1), (0, 0, 10 ** 39, 1), (0, 0, 1, 10 ** 39),
        ]
        for event in wrong:
            with self.subTest(event):
                self.check_bad(0, 3, (event,))
                self.check_bad(2, 3, (RIGHT, RIGHT, event))
        self.check_bad(0, 1, ((1, 0, 1, 1),))
        self.check_bad(0, 1, ((0, 1, 1, 1),))

    def test_events_of_other_lengths(self):
        for event in ((), (0,), (0, 0), (0, 0, 1), (0, 0, 1, 1, 1), [0, 0, 1, 1], (RIGHT,)):
            self.check_bad(1, 1, (RIGHT, event, RIGHT))


class WrongThings(MachineCase):

    def test_in_the_place_of_standings(self):
        for thing in odd_things() + ["", "1", (), (1,), deep(40)]:
            with self.subTest(str(thing)[:40]):
                self.check_bad("standings", thing, ())
                self.check_bad("standings", thing, None)

    def test_in_the_place_of_events(self):
        for thing in odd_things() + ["", "events", 0, 1]:
            if not isinstance(thing, tuple):
                with self.subTest(str(thing)[:40]):
                    self.check_bad("events", 1, thing)
        self.check_bad("events", 1, [RIGHT])

    def test_in_the_place_of_one_event(self):
        for thing in odd_things() + ["", "0011", 0, 1, (), list(RIGHT), deep(38)]:
            with self.subTest(str(thing)[:40]):
                self.check_bad(0, 1, (thing,))
                self.check_bad(1, 1, (RIGHT, thing))
                self.check_bad(1, 1, (RIGHT, thing, thing))

    def test_in_the_place_of_parts(self):
        for thing in odd_things() + ["", "1", (), (1,), deep(37)]:
            for place in range(4):
                with self.subTest(str(thing)[:40], place=place):
                    event = list(RIGHT)
                    event[place] = thing
                    self.check_bad(1, 2, (RIGHT, tuple(event)))

    def test_flags_are_no_integers(self):
        self.check_bad("standings", True, ())
        for event in ((False, 0, 1, 1), (0, False, 1, 1), (0, 0, True, 1), (0, 0, 1, True), (0, 0, 1, False)):
            self.check_bad(0, 1, (event,))

    def test_the_first_that_fits(self):
        self.check_bad("standings", 0, [])
        self.check_bad("standings", 13, (None,))
        self.check_bad("events", 12, [None])
        self.check_bad(1, 12, (RIGHT, (0, 12, 1, 1), None))
        self.check_bad(0, 1, ((0, 1, 1, 1), RIGHT, None))


class Kept(unittest.TestCase):

    def test_attributes(self):
        events = ((0, 1, 3, -4), (1, 0, 1, 0), (1, 0, 1, 0))
        machine = Machine(2, events)
        self.assertEqual(machine.standings, 2)
        self.assertIs(type(machine.standings), int)
        self.assertEqual(machine.events, events)
        self.assertIs(type(machine.events), tuple)
        self.assertTrue(all(type(event) is tuple for event in machine.events))

    def test_equal(self):
        self.assertTrue(Machine(1, (RIGHT,)) == Machine(1, (tuple(RIGHT),)))
        self.assertFalse(Machine(1, (RIGHT,)) != Machine(1, (RIGHT,)))
        self.assertTrue(T == Machine(2, T.events))

    def test_unequal(self):
        pairs = [
            (Machine(1, (RIGHT,)), Machine(2, (RIGHT,))),
            (Machine(1, (RIGHT,)), Machine(1, (RIGHT, RIGHT))),
            (Machine(1, (RIGHT,)), Machine(1, ((0, 0, 1, 2),))),
            (H, Machine(1, (H.events[1], H.events[0]))),
            (EMPTY, Machine(2, ())),
        ]
        for one, other in pairs:
            self.assertFalse(one == other)
            self.assertTrue(one != other)

    def test_equal_to_nothing_else(self):
        others = [thing for thing in odd_things() if not isinstance(thing, Machine)]
        for other in others + [(1, H.events), "Machine", 1, H.events, [1, H.events], (H,)]:
            self.assertFalse(H == other)
            self.assertTrue(H != other)
            self.assertFalse(other == H)

    def test_returned_ones_are_machines(self):
        great = H
        for _ in range(4):
            great = scaled(great, 1000)
        self.assertEqual(boards(great, (0, 1, 0)), [(1, 10 ** 12), (2, 10 ** 12), (3, 2 * 10 ** 12)])
        self.assertEqual(shares(mirrored(great), (0, 1)), [(-10 ** 12, 1), (-10 ** 12 // 2, 1)])
        long = Machine(1, ((0, 0, 40, 39),) + (RIGHT,) * 29)
        for _ in range(39):
            long = parted(long, 0, long.events[0][2] - 1, 0)
        self.assertEqual((long.standings, len(long.events)), (40, 69))
        self.assertTrue(long == mirrored(mirrored(long)))
        self.assertFalse(long == mirrored(long))
        self.assertFalse(long == H)
        round_run = (0,) + tuple(reversed(range(30, 69)))
        self.assertTrue(is_run(long, round_run))
        self.assertFalse(is_run(long, round_run + (68,)))
        self.assertFalse(is_run(long, (69,)))
        self.assertEqual(ends_at(long, round_run[:2]), 38)
        self.assertEqual(boards(long, round_run)[-1], (40, 39))


def right_run(machine, thing):
    """What a run is, word by word."""
    standing = 0
    for number in thing:
        if not 0 <= number < len(machine.events) or machine.events[number][0] != standing:
            return False
        standing = machine.events[number][1]
    return True


class Runs(unittest.TestCase):

    def check_none(self, machine, thing):
        self.assertIs(is_run(machine, thing), False)
        for function in (ends_at, boards, shares):
            with self.assertRaises(NoRun):
                function(machine, thing)

    def test_empty(self):
        for machine in (H, T, EMPTY, KNOTTED):
            self.assertIs(is_run(machine, ()), True)
            self.assertEqual(ends_at(machine, ()), 0)
            self.assertEqual(boards(machine, ()), [])
            self.assertEqual(shares(machine, ()), [])

    def test_all_short_tuples(self):
        for machine in [H, T, EMPTY] + random_machines(11, 30, 3, 4):
            for length in range(4):
                for thing in product(range(-2, len(machine.events) + 2), repeat=length):
                    if right_run(machine, thing):
                        self.assertIs(is_run(machine, thing), True)
                    else:
                        self.check_none(machine, thing)

    def test_where_they_lead(self):
        for machine in [H, T, KNOTTED] + random_machines(12, 30):
            for run in runs_of(machine, 4)[1:]:
                self.assertEqual(ends_at(machine, run), machine.events[run[-1]][1])
                sums = [
                    tuple(sum(machine.events[number][part] for number in run[:length]) for part in (2, 3))
                    for length in range(1, len(run) + 1)
                ]
                self.assertEqual(boards(machine, run), sums)
                fractions = [Fraction(points, tries) for tries, points in sums]
                self.assertEqual(shares(machine, run), [(one.numerator, one.denominator) for one in fractions])

    def test_wrong_begins_and_ways(self):
        for thing in ((2,), (1, 0), (0, 0), (0, 2, 2), (0, 2, 0, 1), (3, 0), (0, -1), (-4,), (4,), (0, 4), (10 ** 39,)):
            self.check_none(T, thing)
        for thing in ((1,), (0, 2), (0, 1, 4, 4), (8,), (9, 0), (0, 1, 2, 1, 4, 5, 5, 2)):
            self.check_none(KNOTTED, thing)
        self.check_none(EMPTY, (0,))

    def test_flags_and_other_things_in_them(self):
        self.check_none(H, (False,))
        self.check_none(H, (True,))
        self.check_none(H, (0, True))
        self.check_none(H, (0, "0"))
        self.check_none(H, (0, None))
        self.check_none(H, ((0,),))
        self.check_none(H, ([0],))
        self.check_none(H, (deep(39),))

    def test_what_is_no_tuple(self):
        for thing in odd_things() + ["", "0", 0, 1, [], [0], [0, 1]]:
            with self.subTest(str(thing)[:40]):
                self.check_none(H, thing)

    def test_long_run(self):
        run = (0, 1) * 4999
        self.assertIs(is_run(H, run), True)
        self.assertEqual(ends_at(H, run), 0)
        self.assertEqual(boards(H, run)[-1], (9998, 4999))
        self.assertEqual(shares(H, run)[-2:], [(4999, 9997), (1, 2)])
        self.check_none(H, run + (2,))

    def test_lowest_terms(self):
        machine = Machine(1, ((0, 0, 6, 4), (0, 0, 4, -6), (0, 0, 10, 0), (0, 0, 8, 10), (0, 0, 40, -400)))
        self.assertEqual(shares(machine, (0,)), [(2, 3)])
        self.assertEqual(shares(machine, (1,)), [(-3, 2)])
        self.assertEqual(shares(machine, (2, 2)), [(0, 1), (0, 1)])
        self.assertEqual(shares(machine, (3, 1)), [(5, 4), (1, 3)])
        self.assertEqual(shares(machine, (4, 4)), [(-10, 1), (-10, 1)])
        self.assertEqual(shares(machine, (0, 1)), [(2, 3), (-1, 5)])

    def test_new_lists(self):
        run = (0, 1, 0)
        for function in (boards, shares):
            first = function(H, run)
            second = function(H, run)
            self.assertIs(type(first), list)
            self.assertTrue(all(type(pair) is tuple for pair in first))
            first.append(None)
            first[0] = None
            self.assertEqual(function(H, run), second)

    def test_example_e01(self):
        self.assertEqual(boards(H, (0, 1, 0)), [(1, 1), (2, 1), (3, 2)])
        self.assertEqual(shares(H, (0, 1, 0)), [(1, 1), (1, 2), (2, 3)])


if __name__ == "__main__":
    unittest.main()
