"""7.1 and 7.2: all shares of a stretch, and all with a bottom, that no run leaps."""

import random
import unittest
from fractions import Fraction
from math import gcd

from neverleapt.changes import bundled, mirrored, parted, scaled, shifted
from neverleapt.divisors import divisors, solved
from neverleapt.errors import NoNumber, NoShare, NoStretch, NotBalanced, NoWay, TooMany
from neverleapt.knots import hangs
from neverleapt.machines import Machine
from neverleapt.rings import area, ends, is_balanced
from neverleapt.stretches import all_never, never_with, unlike_never
from neverleapt.verdicts import never
from tests.samples import EMPTY, H, KNOTTED, LINKED, NO_SHARES, NO_WAYS, S, T, deep, led_to, odd_things, random_machines
from tests.slow import fractions_between
from tests.test_tables import GREATEST

WAYS = ("up", "down")


def share_of(fraction):
    return (fraction.numerator, fraction.denominator)


def bound_of(machine, low, high, way):
    """The area divided by d, as a fraction."""
    reached = led_to(machine, 0)
    events = [event for event in machine.events if event[0] in reached]
    if way == "up":
        greatest = max(event[3] - Fraction(*high) * event[2] for event in events)
    else:
        greatest = max(Fraction(*low) * event[2] - event[3] for event in events)
    return area(machine, 0) / greatest


def stretches_of(source, machine, many):
    """So many stretches between the ends of a machine that hangs together, none if there is no room."""
    told = ends(machine, 0) if hangs(machine) else None
    if told is None or told[0] == told[1]:
        return []
    low, high = (Fraction(*share) for share in told)
    found = []
    for _ in range(many):
        one, other = sorted(low + (high - low) * Fraction(source.randint(1, 29), 30) for _ in range(2))
        found.append((share_of(one), share_of(other)))
    return found


class AllNever(unittest.TestCase):

    def check_too_many(self, function, *arguments):
        with self.assertRaises(TooMany) as caught:
            function(*arguments)
        self.assertEqual(caught.exception.most, 500)

    def test_against_never_of_each_share(self):
        source = random.Random(141)
        tried = found = 0
        for machine in [H, S, T] + random_machines(142, 300, 4, 7, 3, 4):
            for low, high in stretches_of(source, machine, 2):
                for way in WAYS:
                    bound = bound_of(machine, low, high, way)
                    if bound > 60:
                        continue
                    # A little beyond the bound of the third fact there must be none.
                    due = [share for share in fractions_between(low, high, int(bound) + 4) if never(machine, share, way)]
                    told = all_never(machine, low, high, way)
                    self.assertEqual(told, due)
                    self.assertTrue(type(told) is list and all(type(share) is tuple for share in told))
                    self.assertTrue(all(share[1] <= bound for share in told))
                    tried += 1
                    found += len(told)
        self.assertTrue(tried > 150 and found > 150)

    def test_ends_of_the_stretch(self):
        for low, high in (((1, 2), (9, 10)), ((1, 2), (8, 9)), ((4, 5), (4, 5)), ((9, 10), (9, 10))):
            told = all_never(H, low, high, "up")
            self.assertEqual((told[0], told[-1]), (low, high))
        self.assertEqual(all_never(H, (501, 1000), (899, 1000), "up"), [(k, k + 1) for k in range(2, 9)])

    def test_stretches_of_one_share(self):
        for machine in (H, S, T):
            for bottom in range(1, 12):
                for top in range(1, 5 * bottom):
                    share = (top, bottom)
                    if gcd(top, bottom) == 1 and is_balanced(machine, share):
                        for way in WAYS:
                            due = [share] if never(machine, share, way) else []
                            self.assertEqual(all_never(machine, share, share, way), due)

    def test_both_ways(self):
        source = random.Random(143)
        for machine in [H, S, T] + random_machines(144, 60, 4, 6, 3, 4):
            for low, high in stretches_of(source, machine, 2):
                for way, other in (WAYS, WAYS[::-1]):
                    if bound_of(machine, low, high, way) <= 500:
                        told = all_never(mirrored(machine), (-high[0], high[1]), (-low[0], low[1]), other)
                        self.assertEqual(told, [(-a, b) for a, b in reversed(all_never(machine, low, high, way))])

    def test_too_many_just_above_500(self):
        # Up to 1 - 1 / k the bound is just k.
        self.assertEqual(len(all_never(H, (1, 2), (499, 500), "up")), 499)
        self.check_too_many(all_never, H, (1, 2), (500, 501), "up")
        self.check_too_many(all_never, H, (500, 501), (500, 501), "up")
        self.check_too_many(all_never, H, (1, 2), (1001 * 10 ** 20 - 1, 1001 * 10 ** 20), "up")
        self.assertEqual(len(all_never(H, (1, 500), (1, 2), "down")), 499)
        self.check_too_many(all_never, H, (1, 501), (1, 2), "down")
        self.assertEqual(all_never(H, (9981, 10000), (9981, 10000), "down"), [])
        self.check_too_many(all_never, H, (9981, 10000), (9981, 10000), "up")
        source = random.Random(145)
        over = under = 0
        pairs = [
            Machine(1, tuple((0, 0, source.randint(30, 40), source.randint(-300, 300)) for _ in range(2)))
            for _ in range(400)
        ]
        for machine in pairs + random_machines(146, 100, 4, 6, 40, 400):
            for low, high in stretches_of(source, machine, 1):
                for way in WAYS:
                    if bound_of(machine, low, high, way) > 500:
                        self.check_too_many(all_never, machine, low, high, way)
                        over += 1
                    else:
                        for share in all_never(machine, low, high, way):
                            self.assertIs(never(machine, share, way), True)
                        under += 1
        self.assertGreater(over, 20)
        self.assertGreater(under, 20)

    def test_just_500_of_other_machines(self):
        machine = Machine(1, ((0, 0, 1, 250), (0, 0, 1, -250)))
        told = all_never(machine, (-249, 1), (249, 1), "up")
        self.assertTrue(all(share[1] <= 500 for share in told))
        self.assertEqual([share for share in told if share[1] <= 12], [
            share for share in fractions_between((-249, 1), (249, 1), 12) if never(machine, share, "up")])
        self.check_too_many(all_never, machine, (-249, 1), (2491, 10), "up")
        self.check_too_many(all_never, machine, (-2491, 10), (249, 1), "down")
        self.assertGreater(len(all_never(machine, (-2491, 10), (249, 1), "up")), 400)

    def test_events_that_nothing_reaches(self):
        machine = Machine(2, ((0, 0, 1, 1), (1, 0, 1, 400), (0, 0, 1, 0), (1, 1, 1, -400)))
        for way in WAYS:
            self.assertEqual(all_never(machine, (1, 4), (9, 10), way), all_never(H, (1, 4), (9, 10), way))
        self.check_too_many(all_never, machine, (1, 2), (500, 501), "up")

    def test_great_shares(self):
        low, high = (10 ** 29 + 1, 3 * 10 ** 29), (9 * 10 ** 28 + 7, 10 ** 29)
        self.assertEqual(all_never(H, low, high, "up"), [(k, k + 1) for k in range(1, 10)])
        self.assertEqual(all_never(H, low, high, "down"), [(1, 2)])
        self.assertEqual(all_never(H, high, high, "down"), [])
        for way in WAYS:
            told = ends(GREATEST, 0)
            middle = share_of((Fraction(*told[0]) + Fraction(*told[1])) / 2 + Fraction(1, 10 ** 29))
            if bound_of(GREATEST, middle, middle, way) > 500:
                self.check_too_many(all_never, GREATEST, middle, middle, way)
            else:
                self.assertIn(all_never(GREATEST, middle, middle, way), ([], [middle]))

    def test_returned_machines(self):
        for way in WAYS:
            told = all_never(S, (3, 2), (19, 4), way)
            self.assertEqual(all_never(shifted(S, 1000), (2003, 2), (4019, 4), way), [(a + 1000 * b, b) for a, b in told])
            great = scaled(S, 1000)
            self.assertEqual(all_never(great, (1500, 1), (4000, 1), way), [
                share for share in fractions_between((1500, 1), (4000, 1), int(bound_of(great, (1500, 1), (4000, 1), way)))
                if never(great, share, way)
            ])
        machine = parted(Machine(1, ((0, 0, 2, 1), (0, 0, 2, 0))), 0, 1, 1)
        self.assertEqual(all_never(machine, (1, 5), (2, 5), "up"), [
            share for share in fractions_between((1, 5), (2, 5), 10) if never(machine, share, "up")])
        for many in (2, 3, 4):
            machine = bundled(T, many)
            self.assertEqual(all_never(machine, (1, 10), (9, 10), "up"), [
                share for share in fractions_between((1, 10), (9, 10), int(bound_of(machine, (1, 10), (9, 10), "up")))
                if never(machine, share, "up")
            ])

    def test_no_stretch(self):
        for low, high in (
            ((4, 5), (3, 5)), ((1, 2), (499, 1000)), ((0, 1), (1, 2)), ((1, 2), (1, 1)), ((-1, 2), (1, 2)), ((1, 2), (3, 2)),
            ((0, 1), (1, 1)), ((2, 1), (1, 2)),
        ):
            for way in ("up", None):
                self.assertRaises(NoStretch, all_never, H, low, high, way)
        for machine in (EMPTY, LINKED, KNOTTED, Machine(1, ()), Machine(1, ((0, 0, 2, 1),))):
            for way in ("up", None):
                self.assertRaises(NoStretch, all_never, machine, (1, 2), (1, 2), way)

    def test_errors_in_their_order(self):
        for thing in odd_things() + NO_SHARES:
            with self.subTest(str(thing)[:40]):
                self.assertRaises(NoShare, all_never, H, thing, (1, 2), "up")
                self.assertRaises(NoShare, all_never, H, (1, 2), thing, "up")
                self.assertRaises(NoShare, all_never, EMPTY, (1, 2), thing, None)
                self.assertRaises(NoShare, all_never, EMPTY, thing, (1, 2), None)
        for thing in odd_things() + NO_WAYS:
            with self.subTest(str(thing)[:40]):
                self.assertRaises(NoWay, all_never, H, (1, 2), (4, 5), thing)
                self.assertRaises(NoWay, all_never, H, (1, 2), (500, 501), thing)

    def test_new_lists(self):
        first = all_never(H, (1, 2), (4, 5), "up")
        first.append(None)
        self.assertEqual(all_never(H, (1, 2), (4, 5), "up"), first[:-1])

    def test_examples_e05_and_e06(self):
        self.assertEqual(all_never(H, (1, 4), (9, 10), "up"), [
            (1, 2), (2, 3), (3, 4), (4, 5), (5, 6), (6, 7), (7, 8), (8, 9), (9, 10)])
        self.assertEqual(all_never(S, (3, 1), (19, 4), "up"), [(4, 1), (9, 2), (14, 3), (19, 4)])


class NeverWith(unittest.TestCase):

    def due(self, machine, bottom, way):
        low, high = ends(machine, 0)
        return [
            (top, bottom)
            for top in range(low[0] * bottom // low[1], -(-high[0] * bottom // high[1]) + 1)
            if gcd(top, bottom) == 1 and is_balanced(machine, (top, bottom)) and never(machine, (top, bottom), way)
        ]

    def test_against_each_share(self):
        found = 0
        for machine in [H, S, T] + random_machines(147, 120, 4, 7, 3, 4):
            if not hangs(machine) or ends(machine, 0)[0] == ends(machine, 0)[1]:
                for way in WAYS:
                    self.assertRaises(NotBalanced, never_with, machine, 1, way)
                continue
            for bottom in (1, 2, 3, 4, 5, 6, 7, 12, 25):
                for way in WAYS:
                    told = never_with(machine, bottom, way)
                    self.assertEqual(told, self.due(machine, bottom, way))
                    self.assertIs(type(told), list)
                    found += len(told)
        self.assertGreater(found, 300)

    def test_by_hand(self):
        self.assertEqual(never_with(H, 1, "up"), [])
        for bottom in range(2, 201):
            self.assertEqual(never_with(H, bottom, "up"), [(bottom - 1, bottom)])
            self.assertEqual(never_with(H, bottom, "down"), [(1, bottom)])
        self.assertEqual(never_with(S, 1, "up"), [(4, 1)])
        machine = Machine(1, ((0, 0, 1, 1), (0, 0, 1, -1)))
        self.assertEqual(never_with(machine, 1, "up"), [(0, 1)])
        self.assertEqual(never_with(machine, 1, "down"), [(0, 1)])

    def test_greatest_machines(self):
        crowd = Machine(1, ((0, 0, 1, 400), (0, 0, 1, -400)))
        for bottom in (1, 2, 3):
            for way in WAYS:
                self.assertEqual(never_with(crowd, bottom, way), self.due(crowd, bottom, way))
        for bottom in (1, 7, 200):
            for way in WAYS:
                for share in never_with(GREATEST, bottom, way):
                    self.assertIs(never(GREATEST, share, way), True)

    def test_returned_machines(self):
        great = H
        for _ in range(4):
            great = scaled(great, 1000)
        # Tops over 1 that lack a divisor of the whole, and stand just so many below it.
        whole = 10 ** 12
        told = never_with(great, 1, "up")
        self.assertEqual(told, [(whole - part, 1) for part in sorted(divisors(whole), reverse=True) if part < whole])
        self.assertEqual(never_with(shifted(T, -1000), 3, "up"), [(a - 3000, b) for a, b in never_with(T, 3, "up")])

    def test_not_balanced(self):
        for machine in (
            EMPTY, LINKED, KNOTTED, Machine(1, ()), Machine(1, ((0, 0, 2, 1),)), Machine(1, ((0, 0, 2, 1), (0, 0, 4, 2))),
            Machine(2, ((0, 0, 1, 1), (0, 0, 1, 0), (0, 1, 1, 0))),
        ):
            for bottom, way in ((1, "up"), (0, "up"), (None, None), (201, "down")):
                self.assertRaises(NotBalanced, never_with, machine, bottom, way)

    def test_errors_in_their_order(self):
        for thing in odd_things() + ["", "1", (), (1,), [1], deep(40), 0, -1, 201, 10 ** 39]:
            with self.subTest(str(thing)[:40]):
                self.assertRaises(NoNumber, never_with, H, thing, "up")
                self.assertRaises(NoNumber, never_with, H, thing, None)
        for thing in odd_things() + NO_WAYS:
            with self.subTest(str(thing)[:40]):
                self.assertRaises(NoWay, never_with, H, 200, thing)


class UnlikeNever(unittest.TestCase):

    def test_against_both_lists(self):
        source = random.Random(148)
        machines = [H, S, T] + random_machines(149, 80, 3, 5, 3, 4)
        unlike = 0
        for machine in machines:
            for low, high in stretches_of(source, machine, 2):
                for other in source.sample(machines, 6) + [machine]:
                    if not is_balanced(other, low) or not is_balanced(other, high):
                        self.assertRaises(NoStretch, unlike_never, machine, other, low, high, "up")
                        self.assertRaises(NoStretch, unlike_never, other, machine, low, high, None)
                        continue
                    for way in WAYS:
                        if max(bound_of(one, low, high, way) for one in (machine, other)) > 500:
                            continue
                        one, two = all_never(machine, low, high, way), all_never(other, low, high, way)
                        due = sorted({Fraction(*share) for share in one} ^ {Fraction(*share) for share in two})
                        told = unlike_never(machine, other, low, high, way)
                        self.assertEqual(told, [share_of(share) for share in due])
                        self.assertEqual(unlike_never(other, machine, low, high, way), told)
                        unlike += len(told)
        self.assertGreater(unlike, 100)

    def test_by_hand(self):
        self.assertEqual(unlike_never(H, H, (1, 2), (9, 10), "up"), [])
        # Two throws at once: what lacks one part of an odd whole is leapt.
        self.assertEqual(unlike_never(H, bundled(H, 2), (1, 2), (6, 7), "up"), [
            share for share in all_never(H, (1, 2), (6, 7), "up") if not never(bundled(H, 2), share, "up")])
        self.assertIs(type(unlike_never(H, T, (1, 2), (9, 10), "up")), list)

    def test_errors_in_their_order(self):
        for thing in odd_things() + NO_SHARES:
            with self.subTest(str(thing)[:40]):
                self.assertRaises(NoShare, unlike_never, H, EMPTY, thing, (1, 2), None)
                self.assertRaises(NoShare, unlike_never, EMPTY, H, (1, 2), thing, None)
        for way in ("up", None):
            self.assertRaises(NoStretch, unlike_never, H, H, (4, 5), (3, 5), way)
            self.assertRaises(NoStretch, unlike_never, H, EMPTY, (1, 2), (4, 5), way)
            self.assertRaises(NoStretch, unlike_never, EMPTY, H, (1, 2), (4, 5), way)
            self.assertRaises(NoStretch, unlike_never, H, S, (1, 2), (4, 5), way)
            self.assertRaises(NoStretch, unlike_never, S, H, (3, 2), (4, 1), way)
        for thing in odd_things() + NO_WAYS:
            with self.subTest(str(thing)[:40]):
                self.assertRaises(NoWay, unlike_never, H, T, (1, 2), (500, 501), thing)

    def test_too_many(self):
        wide = Machine(1, ((0, 0, 1, 3), (0, 0, 1, -3)))
        for one, other in ((H, wide), (wide, H)):
            unlike_never(one, other, (1, 2), (499, 500), "up")
            with self.assertRaises(TooMany) as caught:
                unlike_never(one, other, (1, 2), (500, 501), "up")
            self.assertEqual(caught.exception.most, 500)


class Divisors(unittest.TestCase):

    def test_divisors(self):
        for number in list(range(1, 400)) + [997 * 991, 2 ** 40, 3 ** 5 * 10 ** 6, 1009 ** 3]:
            found = divisors(number)
            self.assertEqual(len(found), len(set(found)))
            self.assertTrue(all(number % one == 0 for one in found))
            if number < 400:
                self.assertEqual(sorted(found), [one for one in range(1, number + 1) if number % one == 0])
        self.assertEqual(len(divisors(10 ** 30)), 31 * 31)

    def test_solved(self):
        for step in range(1, 25):
            for factor in range(1, 25):
                for rest in range(-3, 25):
                    due = [one for one in range(step) if (factor * one - rest) % step == 0]
                    told = solved(factor, rest, step)
                    if told is None:
                        self.assertEqual(due, [])
                    else:
                        self.assertEqual(list(range(told[0], step, told[1])), due)


if __name__ == "__main__":
    unittest.main()
