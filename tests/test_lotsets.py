"""4.2 and 4.3: what is in lots, lots made of others, least and next ones, how many."""

import random
import unittest

from neverleapt.errors import NoNumber, NoNumbers, TooMany
from neverleapt.lots import (
    Lot, common, every, greatest_in, is_in, is_part, joined, lacking, least_in, lot_of, many_in, moved, next_above,
    next_below,
)
from tests.samples import deep, odd_things
from tests.test_lots import parts_of, random_parts, told

NEAR = range(-70, 71)
FAR = 6 * 10 ** 37
NO_INTEGERS = odd_things() + ["", "0", (), (0,), [0], deep(40), (0, 1)]
NONE = Lot(0, 0, (), 1, (), ())
ALL = Lot(0, 0, (), 1, (0,), (0,))
BELOW = Lot(3, 3, (), 1, (0,), ())
ABOVE = Lot(3, 3, (), 1, (), (0,))


def random_lots(seed, many, steps=6):
    source = random.Random(seed)
    return [Lot(*random_parts(source, steps)) for _ in range(many)] + [NONE, ALL, BELOW, ABOVE]


def numbers_in(lot, numbers=NEAR):
    return [number for number in numbers if told(parts_of(lot), number)]


class SetsCase(unittest.TestCase):

    def check_holds(self, lot, numbers):
        """That of all integers near 0 just these are in the lot."""
        self.assertIs(type(lot), Lot)
        self.assertEqual(numbers_in(lot), numbers)

    def check_too_many(self, most, function, *lots):
        with self.assertRaises(TooMany) as caught:
            function(*lots)
        self.assertEqual(caught.exception.most, most)


class Members(SetsCase):

    def test_is_in(self):
        source = random.Random(51)
        for _ in range(200):
            parts = random_parts(source)
            lot = Lot(*parts)
            for number in NEAR:
                self.assertIs(is_in(lot, number), told(parts, number))
            for number in (FAR, FAR + 1, -FAR - 1, -FAR + 2):
                self.assertIs(is_in(lot, number), number % parts[3] in (parts[5] if number > 0 else parts[4]))

    def test_what_is_no_integer(self):
        for lot in (ALL, NONE, every(2, 1), lot_of([0, 1])):
            for thing in NO_INTEGERS:
                with self.subTest(str(thing)[:40]):
                    self.assertIs(is_in(lot, thing), False)

    def test_lot_of(self):
        source = random.Random(52)
        for _ in range(200):
            numbers = [source.randint(-40, 40) for _ in range(source.randint(0, 9))]
            self.check_holds(lot_of(numbers), sorted(set(numbers)))
            self.assertTrue(lot_of(tuple(numbers)) == lot_of(numbers))
        self.assertTrue(lot_of([]) == NONE)
        self.assertTrue(lot_of(()) == NONE)
        self.assertEqual(parts_of(lot_of([FAR, FAR, FAR + 2])), (FAR, FAR + 3, (FAR, FAR + 2), 1, (), ()))
        self.assertEqual(lot_of(list(range(100001))).high, 100001)

    def test_no_numbers(self):
        self.assertEqual(parts_of(lot_of((-50000, 50000)))[:2], (-50000, 50001))
        for thing in ((0, 100001), [100001, 5, 0], (FAR, -FAR), (-1, 0, 100000)):
            self.assertRaises(NoNumbers, lot_of, thing)
        for thing in odd_things() + ["", "01", 0, 1, (0, True), [None], (0, "1"), ((0,),), [[0]], deep(40), range(3)]:
            with self.subTest(str(thing)[:40]):
                if thing in ([0], [0, 1], [0] * 9999, []):
                    continue
                self.assertRaises(NoNumbers, lot_of, thing)

    def test_every(self):
        for step in (1, 2, 7, 60):
            for rest in range(step):
                self.check_holds(every(step, rest), [number for number in NEAR if number % step == rest])
                self.assertEqual(parts_of(every(step, rest)), (0, 0, (), step, (rest,), (rest,)))
        self.assertEqual(every(4000, 3999).above, (3999,))

    def test_every_of_no_number(self):
        for step in (0, -1, 4001, FAR):
            self.assertRaises(NoNumber, every, step, 0)
        for step, rest in ((1, 1), (1, -1), (5, 5), (5, -1), (4000, 4000), (3, FAR), (3, -FAR)):
            self.assertRaises(NoNumber, every, step, rest)
        for thing in NO_INTEGERS:
            with self.subTest(str(thing)[:40]):
                self.assertRaises(NoNumber, every, thing, 0)
                self.assertRaises(NoNumber, every, thing, thing)
                self.assertRaises(NoNumber, every, 3, thing)


class Made(SetsCase):

    def test_joined_and_common(self):
        lots = random_lots(53, 60)
        for one in lots:
            for other in lots:
                first, second = numbers_in(one), numbers_in(other)
                self.check_holds(joined(one, other), [number for number in NEAR if number in first or number in second])
                self.check_holds(common(one, other), [number for number in first if number in second])

    def test_they_are_in_least_form(self):
        for one in random_lots(54, 40):
            self.assertEqual(parts_of(joined(one, lacking(one))), parts_of(ALL))
            self.assertEqual(parts_of(common(one, lacking(one))), parts_of(NONE))
            for whole in (joined(one, one), common(one, one), joined(one, NONE), common(one, ALL)):
                self.assertEqual(parts_of(whole), parts_of(one))
        self.assertEqual(parts_of(joined(every(4, 1), every(4, 3))), parts_of(every(2, 1)))
        self.assertEqual(parts_of(common(every(4, 1), every(6, 3))), (0, 0, (), 12, (9,), (9,)))

    def test_far_from_0(self):
        tried = 0
        for one in random_lots(55, 20):
            for other in random_lots(56, 20):
                if one.low == one.high == 0 or other.low == other.high == 0:
                    continue
                tried += 1
                self.assertTrue(moved(joined(moved(one, FAR), moved(other, FAR)), -FAR) == joined(one, other))
                self.assertTrue(moved(common(moved(one, -FAR), moved(other, -FAR)), FAR) == common(one, other))
        self.assertGreater(tried, 100)

    def test_too_many_steps(self):
        for one, other in ((4000, 3), (63, 64), (4000, 3999), (2001, 2), (3998, 4)):
            first, second = every(one, 0), every(other, 1)
            for function in (joined, common):
                self.check_too_many(4000, function, first, second)
                self.check_too_many(4000, function, second, first)
        for one, other, step in ((62, 64, 1984), (4000, 16, 4000), (2000, 2, 2000), (40, 100, 200), (1000, 16, 2000)):
            self.assertEqual(joined(every(one, 0), every(other, 1)).step, step)
            self.assertEqual(common(every(one, 0), every(other, 0)).step, step)

    def test_steps_are_those_of_the_least_form(self):
        lot = Lot(0, 0, (), 3000, tuple(range(0, 3000, 3)), tuple(range(0, 3000, 3)))
        self.assertEqual(joined(lot, every(1000, 0)).step, 3000)
        self.assertEqual(joined(lot, every(1300, 0)).step, 3900)
        self.check_too_many(4000, joined, lot, every(1400, 0))

    def test_too_far(self):
        for low in (0, -50000, FAR, -FAR):
            lot = lot_of([low])
            for function in (joined, common):
                function(lot, lot_of([low + 99999]))
                function(lot_of([low + 99999]), lot)
                self.check_too_many(100000, function, lot, lot_of([low + 100000]))
                self.check_too_many(100000, function, lot_of([low + 100000]), lot)
                self.check_too_many(100000, function, lot, lot_of([low + FAR]))
        long = lot_of([0, 100000])
        for function in (joined, common):
            self.check_too_many(100000, function, long, NONE)
            self.check_too_many(100000, function, NONE, long)
            # Where nothing needs a border both are 0, and counted like others.
            self.check_too_many(100000, function, lot_of([100000]), every(2, 0))
            self.check_too_many(100000, function, ALL, lot_of([-100001]))
            function(lot_of([99999]), every(2, 0))
            function(ALL, lot_of([-100000]))

    def test_steps_ahead_of_borders(self):
        for function in (joined, common):
            self.check_too_many(4000, function, moved(Lot(0, 1, (), 4000, (), (3,)), FAR), every(3, 1))

    def test_lacking(self):
        for lot in random_lots(57, 200):
            there = numbers_in(lot)
            self.check_holds(lacking(lot), [number for number in NEAR if number not in there])
            self.assertEqual(parts_of(lacking(lacking(lot))), parts_of(lot))
        self.assertEqual(parts_of(lacking(lot_of([0, 100000])))[:2], (0, 100001))
        self.assertEqual(many_in(lacking(lot_of([FAR, FAR + 2])), FAR - 5, FAR + 5), 8)

    def test_moved(self):
        for lot in random_lots(58, 100):
            there = numbers_in(lot, range(-140, 141))
            for by in (0, 1, -1, 7, -12, 60):
                self.check_holds(moved(lot, by), [number for number in NEAR if number - by in there])
            away = moved(lot, FAR + 5)
            self.assertEqual(numbers_in(away, range(FAR - 60, FAR + 60)), [
                number + FAR + 5 for number in range(-65, 55) if number in there])
            self.assertEqual(parts_of(moved(away, -FAR - 5)), parts_of(lot))
            for thing in NO_INTEGERS:
                self.assertRaises(NoNumber, moved, lot, thing)

    def test_is_part(self):
        lots = random_lots(59, 60)
        for one in lots:
            for other in lots:
                there = numbers_in(other)
                self.assertIs(is_part(one, other), all(number in there for number in numbers_in(one)))
        for lot in lots:
            self.assertIs(is_part(NONE, lot), True)
            self.assertIs(is_part(lot, ALL), True)
            self.assertIs(is_part(lot, lot), True)

    def test_is_part_of_great_steps(self):
        evens, odds = tuple(range(0, 4000, 2)), tuple(range(1, 3999, 2))
        self.assertIs(is_part(Lot(0, 0, (), 4000, (), evens), Lot(0, 0, (), 3999, (), (0,) + odds)), False)
        # Of the steps 4000 and 3999 just one rest of each 15996000 integers is lacking.
        missing = Lot(0, 0, (), 3999, tuple(range(3999)), tuple(range(3998)))
        self.assertIs(is_part(every(4000, 7), missing), False)
        self.assertIs(is_part(Lot(10 ** 7, 10 ** 7, (), 4000, (7,), ()), missing), True)
        self.assertIs(is_part(Lot(2 * 10 ** 7, 2 * 10 ** 7, (), 4000, (7,), ()), missing), False)
        first = next(number for number in range(7, 10 ** 8, 4000) if number % 3999 == 3998)
        self.assertIs(is_part(Lot(first, first, (), 4000, (7,), ()), missing), True)
        self.assertIs(is_part(Lot(first + 1, first + 1, (), 4000, (7,), ()), missing), False)
        self.assertIs(is_part(every(4000, 7), Lot(0, 0, (), 8, (7,), (7,))), True)
        self.assertIs(is_part(every(8, 7), every(4000, 7)), False)

    def test_is_part_far_apart(self):
        # Between the one's high and the other's low lie far more integers than both steps together.
        one = Lot(-FAR, -FAR, (), 6, (), (0,))
        self.assertIs(is_part(one, Lot(FAR, FAR, (), 4, (0, 2), (0, 2))), True)
        self.assertIs(is_part(one, Lot(FAR, FAR, (), 4, (0, 2), (0,))), False)
        self.assertIs(is_part(one, Lot(FAR, FAR, (), 4, (0,), (0, 2))), False)
        self.assertIs(is_part(one, Lot(FAR, FAR + 9, tuple(range(FAR, FAR + 9)), 4, (0, 2), (0, 2))), True)
        self.assertIs(is_part(lot_of([-FAR]), Lot(FAR, FAR, (), 6, (0,), ())), True)
        self.assertIs(is_part(lot_of([FAR]), Lot(FAR, FAR, (), 6, (0,), ())), False)


class Next(SetsCase):

    def test_least_and_greatest(self):
        for lot in random_lots(60, 200):
            there = numbers_in(lot)
            self.assertEqual(least_in(lot), None if lot.below or not there else there[0])
            self.assertEqual(greatest_in(lot), None if lot.above or not there else there[-1])
            if not lot.below and there:
                self.assertEqual(least_in(moved(lot, FAR)), there[0] + FAR)
            if not lot.above and there:
                self.assertEqual(greatest_in(moved(lot, -FAR)), there[-1] - FAR)
        for lot in (NONE, ALL, every(7, 3)):
            self.assertIsNone(least_in(lot))
            self.assertIsNone(greatest_in(lot))
        self.assertEqual((least_in(ABOVE), greatest_in(ABOVE)), (3, None))
        self.assertEqual((least_in(BELOW), greatest_in(BELOW)), (None, 2))

    def test_next(self):
        wide = range(-140, 141)
        for lot in random_lots(61, 100):
            there = numbers_in(lot, wide)
            for number in NEAR:
                below = [one for one in there if one < number]
                above = [one for one in there if one > number]
                self.assertEqual(next_below(lot, number), below[-1] if below else None)
                self.assertEqual(next_above(lot, number), above[0] if above else None)

    def test_next_far_away(self):
        for lot in random_lots(62, 60):
            ends = numbers_in(lot)
            last = None if not ends else ends[-1]
            first = None if not ends else ends[0]
            above = [number for number in range(FAR - 12, FAR) if is_in(lot, number)]
            below = [number for number in range(1 - FAR, 13 - FAR) if is_in(lot, number)]
            self.assertEqual(next_below(lot, FAR), above[-1] if above else last)
            self.assertEqual(next_above(lot, -FAR), below[0] if below else first)
            if not lot.above:
                self.assertIsNone(next_above(lot, FAR))
            if not lot.below:
                self.assertIsNone(next_below(lot, -FAR))

    def test_many_in(self):
        source = random.Random(63)
        for lot in random_lots(64, 150):
            there = numbers_in(lot)
            for _ in range(30):
                one, other = source.randint(-70, 71), source.randint(-70, 71)
                self.assertEqual(many_in(lot, one, other), len([number for number in there if one <= number < other]))
            self.assertEqual(many_in(lot, FAR, FAR), 0)
            self.assertEqual(many_in(lot, FAR, -FAR), 0)
            wide = 60 * 10 ** 30
            whole = len(lot.below) * wide // lot.step + len(lot.above) * wide // lot.step
            self.assertEqual(many_in(lot, -wide - 60, wide + 60), whole + many_in(lot, -60, 60))
        self.assertEqual(many_in(ALL, -FAR, FAR), 2 * FAR)
        self.assertEqual(many_in(every(3, 1), 0, FAR), FAR // 3)

    def test_no_number(self):
        for thing in NO_INTEGERS:
            with self.subTest(str(thing)[:40]):
                for lot in (NONE, ALL, every(2, 1)):
                    self.assertRaises(NoNumber, next_below, lot, thing)
                    self.assertRaises(NoNumber, next_above, lot, thing)
                    self.assertRaises(NoNumber, many_in, lot, thing, 0)
                    self.assertRaises(NoNumber, many_in, lot, 0, thing)
                    self.assertRaises(NoNumber, many_in, lot, thing, thing)


class NothingIsChanged(SetsCase):

    def test_what_was_passed_stays(self):
        for one in random_lots(65, 20):
            for other in random_lots(66, 20):
                first, second = parts_of(one), parts_of(other)
                answers = []
                for _ in range(2):
                    answers.append([
                        parts_of(lot) for lot in (joined(one, other), common(one, other), lacking(one), moved(one, 5))
                    ] + [is_part(one, other), least_in(one), greatest_in(one), many_in(one, -9, 9)])
                self.assertEqual(answers[0], answers[1])
                self.assertEqual((parts_of(one), parts_of(other)), (first, second))

    def test_numbers_stay(self):
        numbers = [5, 3, 3, 9]
        lot_of(numbers)
        self.assertEqual(numbers, [5, 3, 3, 9])

    def test_returned_ones_are_lots_for_every_function(self):
        lot = moved(lot_of(list(range(0, 100001, 2))), FAR)
        self.assertEqual((lot.low, lot.high, len(lot.members)), (FAR, FAR + 100001, 50001))
        self.assertIs(is_in(lot, FAR + 100000), True)
        self.assertEqual((least_in(lot), greatest_in(lot)), (FAR, FAR + 100000))
        self.assertEqual((next_below(lot, FAR + 100000), next_above(lot, FAR)), (FAR + 99998, FAR + 2))
        self.assertEqual(many_in(lot, 0, FAR * 2), 50001)
        self.assertEqual(many_in(lacking(lot), FAR - 10, FAR + 100011), 50020)
        self.assertIs(is_part(lot, lacking(lot)), False)
        self.assertIs(is_part(lot, every(2, 0)), True)
        self.assertTrue(lacking(lacking(lot)) == lot)


if __name__ == "__main__":
    unittest.main()
