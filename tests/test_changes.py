"""1.4: mirrored, shifted, scaled, struck, parted, bundled."""

import unittest
from itertools import combinations

from neverleapt.changes import bundled, mirrored, parted, scaled, shifted, struck
from neverleapt.errors import NoEvent, NoEvents, NoNumber, NoPart, TooMany
from neverleapt.knots import hangs, knots, reached
from neverleapt.machines import Machine, boards, is_run, shares
from neverleapt.rings import ends, net
from tests.samples import EMPTY, H, KNOTTED, S, T, deep, odd_things, random_machines, runs_of

MACHINES = [H, S, T, EMPTY, KNOTTED, Machine(1, ()), Machine(1, ((0, 0, 40, 400), (0, 0, 1, -400)))]


def rows_of(machine, many):
    """All rows of so many events one behind another, from any standing."""
    rows = [(number,) for number in range(len(machine.events))]
    for _ in range(many - 1):
        rows = [
            row + (number,)
            for row in rows
            for number, event in enumerate(machine.events)
            if machine.events[row[-1]][1] == event[0]
        ]
    return rows


def bundles_of(machine, many):
    """What the events of the machine bundled by so many are, ascending."""
    return tuple(sorted({
        (
            machine.events[row[0]][0], machine.events[row[-1]][1],
            sum(machine.events[number][2] for number in row), sum(machine.events[number][3] for number in row),
        )
        for row in rows_of(machine, many)
    }))


class ChangesCase(unittest.TestCase):

    def check(self, machine, standings, events):
        self.assertIsInstance(machine, Machine)
        self.assertEqual(machine.standings, standings)
        self.assertEqual(machine.events, events)
        self.assertIs(type(machine.events), tuple)
        self.assertTrue(all(type(event) is tuple for event in machine.events))


class Points(ChangesCase):

    def test_mirrored(self):
        for machine in MACHINES + random_machines(31, 30):
            self.check(mirrored(machine), machine.standings, tuple((a, b, t, -p) for a, b, t, p in machine.events))
            self.assertTrue(mirrored(mirrored(machine)) == machine)
        self.assertFalse(mirrored(H) == H)

    def test_shifted(self):
        for machine in MACHINES + random_machines(32, 30):
            for by in (-1000, -999, -3, -1, 0, 1, 2, 999, 1000):
                there = shifted(machine, by)
                self.check(there, machine.standings, tuple((a, b, t, p + by * t) for a, b, t, p in machine.events))
                self.assertTrue(shifted(there, -by) == machine)

    def test_scaled(self):
        for machine in MACHINES + random_machines(33, 30):
            for by in (1, 2, 7, 999, 1000):
                self.check(scaled(machine, by), machine.standings, tuple((a, b, t, p * by) for a, b, t, p in machine.events))
        self.assertTrue(scaled(T, 1) == T)

    def test_shares_follow(self):
        run = (0, 1, 1, 0, 1)
        self.assertEqual(shares(mirrored(H), run), [(-a, b) for a, b in shares(H, run)])
        self.assertEqual(shares(shifted(H, -7), run), [(a - 7 * b, b) for a, b in shares(H, run)])
        self.assertEqual(boards(scaled(H, 30), run), [(tries, 30 * points) for tries, points in boards(H, run)])

    def test_no_number(self):
        for thing in odd_things() + ["", "1", (), (1,), [1], deep(40)]:
            for function in (shifted, scaled):
                with self.subTest(str(thing)[:40], function=function):
                    self.assertRaises(NoNumber, function, T, thing)
        for by in (-1001, 1001, 10 ** 39, -10 ** 39):
            self.assertRaises(NoNumber, shifted, T, by)
        for by in (0, -1, -1000, 1001, 10 ** 39):
            self.assertRaises(NoNumber, scaled, T, by)

    def test_great_points_and_back(self):
        machine = KNOTTED
        for _ in range(6):
            machine = shifted(scaled(machine, 1000), 1000)
        for _ in range(6):
            self.assertTrue(mirrored(mirrored(machine)) == machine)
        self.assertGreater(machine.events[0][3], 10 ** 18)
        self.assertRaises(NoNumber, shifted, machine, 1001)
        self.check(struck(machine, tuple(range(1, 10))), 6, machine.events[:1])


class Struck(ChangesCase):

    def test_all_lots_of_events(self):
        for machine in (H, T, S, random_machines(34, 1)[0]):
            numbers = range(len(machine.events))
            for many in range(len(machine.events) + 1):
                for lot in combinations(numbers, many):
                    left = tuple(machine.events[number] for number in numbers if number not in lot)
                    self.check(struck(machine, lot), machine.standings, left)

    def test_equal_events(self):
        machine = Machine(1, ((0, 0, 1, 1), (0, 0, 1, 1), (0, 0, 1, 0)))
        self.check(struck(machine, (0,)), 1, ((0, 0, 1, 1), (0, 0, 1, 0)))
        self.check(struck(machine, (1,)), 1, ((0, 0, 1, 1), (0, 0, 1, 0)))

    def test_without_events(self):
        self.check(struck(EMPTY, ()), 3, ())
        self.assertRaises(NoEvents, struck, EMPTY, (0,))

    def test_no_events(self):
        wrong = [(1, 0), (0, 0), (0, 1, 1), (0, 2, 1), (-1,), (-1, 0), (4,), (0, 4), (0, 1, 2, 3, 4), (10 ** 39,),
                 (True,), (False,), (0, True), (0, None), ("0",), ((0,),), [], [0], 0, 1, "", "0", range(2), {}, {0: 0},
                 (deep(38),), deep(40)]
        for thing in wrong + odd_things():
            with self.subTest(str(thing)[:40]):
                self.assertRaises(NoEvents, struck, T, thing)


class Parted(ChangesCase):

    def test_in_its_place(self):
        machine = Machine(3, ((0, 1, 2, 5), (1, 2, 40, -400), (2, 0, 7, 3), (2, 2, 7, 3)))
        self.check(parted(machine, 0, 1, 9), 4, (
            (0, 3, 1, 9), (1, 2, 40, -400), (2, 0, 7, 3), (2, 2, 7, 3), (3, 1, 1, -4)))
        self.check(parted(machine, 1, 1, 0), 4, (
            (0, 1, 2, 5), (1, 3, 1, 0), (2, 0, 7, 3), (2, 2, 7, 3), (3, 2, 39, -400)))
        self.check(parted(machine, 1, 39, -401), 4, (
            (0, 1, 2, 5), (1, 3, 39, -401), (2, 0, 7, 3), (2, 2, 7, 3), (3, 2, 1, 1)))
        self.check(parted(machine, 3, 6, 10 ** 39), 4, (
            (0, 1, 2, 5), (1, 2, 40, -400), (2, 0, 7, 3), (2, 3, 6, 10 ** 39), (3, 2, 1, 3 - 10 ** 39)))
        self.check(parted(machine, 2, 3, -10 ** 39), 4, (
            (0, 1, 2, 5), (1, 2, 40, -400), (2, 3, 3, -10 ** 39), (2, 2, 7, 3), (3, 0, 4, 3 + 10 ** 39)))

    def test_no_event(self):
        for thing in odd_things() + ["", "0", (), (0,), [0], -1, 4, 10 ** 39, deep(40)]:
            with self.subTest(str(thing)[:40]):
                self.assertRaises(NoEvent, parted, T, thing, 1, 1)
                self.assertRaises(NoEvent, parted, T, thing, None, None)
        self.assertRaises(NoEvent, parted, EMPTY, 0, 1, 1)

    def test_no_part(self):
        machine = Machine(1, ((0, 0, 5, 2), (0, 0, 1, 1), (0, 0, 2, 1)))
        for tries in (0, -1, 5, 6, 10 ** 39, -10 ** 39):
            self.assertRaises(NoPart, parted, machine, 0, tries, 1)
        for tries in (0, 1, 2):
            self.assertRaises(NoPart, parted, machine, 1, tries, 1)
        self.assertRaises(NoPart, parted, machine, 2, 2, 1)
        for thing in odd_things() + ["", "1", (), (1,), [1], deep(40)]:
            with self.subTest(str(thing)[:40]):
                self.assertRaises(NoPart, parted, machine, 0, thing, 1)
                self.assertRaises(NoPart, parted, machine, 0, 1, thing)

    def test_again_and_again(self):
        machine = Machine(1, ((0, 0, 40, 7), (0, 0, 40, -3)))
        for many in range(2, 79):
            event = max(range(len(machine.events)), key=lambda number: machine.events[number][2])
            before, after, tries, points = machine.events[event]
            further = parted(machine, event, tries - 1, many)
            self.assertEqual(further.standings, many)
            self.assertEqual(further.events[event], (before, many - 1, tries - 1, many))
            self.assertEqual(further.events[-1], (many - 1, after, 1, points - many))
            self.assertEqual(len(further.events), many + 1)
            self.assertTrue(hangs(further))
            self.assertEqual(net(further, 0), ((40, 7), (0, 10)))
            self.assertEqual(ends(further, many - 1), ((-3, 40), (7, 40)))
            machine = further
        self.assertEqual(max(event[2] for event in machine.events), 2)
        self.assertEqual(reached(machine), tuple(range(78)))
        self.assertTrue(is_run(machine, (0, 79 - 1)))
        self.assertRaises(NoEvent, parted, machine, 79, 1, 1)


class Bundled(ChangesCase):

    def test_against_all_rows(self):
        for machine in MACHINES + random_machines(35, 40, 4, 6):
            for many in range(1, 5):
                events = bundles_of(machine, many)
                if len(events) > 200:
                    with self.assertRaises(TooMany) as caught:
                        bundled(machine, many)
                    self.assertEqual(caught.exception.most, 200)
                else:
                    self.check(bundled(machine, many), machine.standings, events)

    def test_each_once(self):
        machine = Machine(1, ((0, 0, 2, 1), (0, 0, 1, 1), (0, 0, 2, 1), (0, 0, 1, 1)))
        self.check(bundled(machine, 1), 1, ((0, 0, 1, 1), (0, 0, 2, 1)))
        self.check(bundled(machine, 2), 1, ((0, 0, 2, 2), (0, 0, 3, 2), (0, 0, 4, 2)))

    def test_from_any_standing(self):
        machine = Machine(3, ((1, 2, 1, 5), (2, 1, 2, -5), (2, 0, 3, 1)))
        self.check(bundled(machine, 1), 3, machine.events[:1] + ((2, 0, 3, 1), (2, 1, 2, -5)))
        self.check(bundled(machine, 2), 3, ((1, 0, 4, 6), (1, 1, 3, 0), (2, 2, 3, 0)))
        self.check(bundled(machine, 3), 3, ((1, 2, 4, 5), (2, 0, 6, 1), (2, 1, 5, -5)))

    def test_no_row_so_long(self):
        machine = Machine(3, ((0, 1, 1, 1), (1, 2, 1, 1)))
        self.check(bundled(machine, 2), 3, ((0, 2, 2, 2),))
        self.check(bundled(machine, 3), 3, ())
        self.check(bundled(EMPTY, 4), 3, ())

    def check_so_many(self, machine, many, number):
        """That there are so many bundles, and that just more than 200 are too many."""
        events = bundles_of(machine, many)
        self.assertEqual(len(events), number)
        if number > 200:
            with self.assertRaises(TooMany) as caught:
                bundled(machine, many)
            self.assertEqual(caught.exception.most, 200)
        else:
            self.check(bundled(machine, many), machine.standings, events)

    def test_just_so_many(self):
        # 15 times 13 bundles are apart; those with the last event make 5 or 6 more.
        there = tuple((0, 1, 1, 20 * k) for k in range(15))
        for extra, number in ((100, 200), (120, 201)):
            on = tuple((1, 2, 1, points) for points in (*range(13), extra))
            self.check_so_many(Machine(3, there + on), 2, number)
            self.check_so_many(Machine(4, there + on + ((3, 0, 1, 0),)), 3, number)

    def test_so_many_of_all_standings(self):
        # Between two standings there are at most 112 bundles.
        for ahead, behind, number in ((10, 10, 200), (8, 14, 224)):
            events = tuple((k % 2, 2, 1, 20 * (k // 2)) for k in range(2 * ahead))
            self.check_so_many(Machine(4, events + tuple((2, 3, 1, k) for k in range(behind))), 2, number)

    def test_no_number(self):
        for thing in odd_things() + ["", "1", (), (1,), [1], deep(40), 0, -1, 5, 10 ** 39]:
            with self.subTest(str(thing)[:40]):
                self.assertRaises(NoNumber, bundled, T, thing)
        crowd = Machine(1, tuple((0, 0, 1 + k, k * k // 3) for k in range(30)))
        self.assertRaises(TooMany, bundled, crowd, 4)
        self.assertRaises(NoNumber, bundled, crowd, 5)

    def test_example_e07(self):
        self.assertEqual(bundled(T, 2).events, (
            (0, 0, 2, 0), (0, 0, 2, 1), (0, 0, 2, 2), (1, 1, 2, 0), (1, 1, 2, 1), (1, 1, 2, 2)))


class NothingIsChanged(unittest.TestCase):

    def test_what_was_passed_stays(self):
        machine = Machine(2, ((0, 1, 5, 1), (1, 0, 5, -3), (1, 1, 2, 0)))
        for change in (
            lambda: mirrored(machine), lambda: shifted(machine, 3), lambda: scaled(machine, 3),
            lambda: struck(machine, (0, 2)), lambda: parted(machine, 1, 2, 2), lambda: bundled(machine, 3),
        ):
            first = change()
            self.assertEqual((machine.standings, machine.events), (2, ((0, 1, 5, 1), (1, 0, 5, -3), (1, 1, 2, 0))))
            self.assertTrue(change() == first)

    def test_nor_by_errors(self):
        machine = Machine(1, ((0, 0, 5, 1),))
        for wrong in (
            lambda: shifted(machine, None), lambda: scaled(machine, 0), lambda: struck(machine, (0, 0)),
            lambda: parted(machine, 0, 2, None), lambda: parted(machine, 0, 5, 1), lambda: bundled(machine, 5),
        ):
            self.assertRaises(ValueError, wrong)
            self.assertEqual((machine.standings, machine.events), (1, ((0, 0, 5, 1),)))

    def test_bundled_of_returned_ones(self):
        twice = bundled(bundled(T, 2), 2)
        self.assertTrue(twice == bundled(T, 4))
        great = bundled(Machine(1, tuple((0, 0, 1, 2 ** number % 367) for number in range(19))), 2)
        self.assertGreater(len(great.events), 100)
        self.assertTrue(bundled(great, 1) == great)
        for many in (2, 3, 4):
            self.assertRaises(TooMany, bundled, great, many)
        self.assertEqual(knots(great), [(0,)])
        self.assertEqual(ends(great, 0), ends(bundled(great, 1), 0))


class Bounds(ChangesCase):

    def test_two_hundred_and_one(self):
        # 200 events that cannot follow one another, made of 20 and 10; one more of them is too many.
        there = tuple((0, 1, 1, 20 * k) for k in range(20))
        two_hundred = bundled(Machine(3, there + tuple((1, 2, 1, k) for k in range(10))), 2)
        self.assertEqual(len(two_hundred.events), 200)
        self.assertTrue(bundled(two_hundred, 1) == two_hundred)
        more = parted(two_hundred, 0, 1, 0)
        self.assertEqual(len(more.events), 201)
        with self.assertRaises(TooMany) as caught:
            bundled(more, 1)
        self.assertEqual(caught.exception.most, 200)
        self.check(bundled(more, 2), 4, ((0, 2, 2, 0),))
        self.check(bundled(struck(more, (0,)), 1), 4, tuple(sorted(more.events[1:])))

    def test_many_short_of_their_end(self):
        # Many rows of two begin so, but only those from standing 2 on go on to be rows of three.
        machine = Machine(5, tuple((0, 1, 1, 20 * k) for k in range(15)) + tuple((1, 3, 1, k) for k in range(15)))
        self.assertRaises(TooMany, bundled, machine, 2)
        self.check(bundled(machine, 3), 5, ())


if __name__ == "__main__":
    unittest.main()
