"""4.1: lots, what makes none, and their least form."""

import random
import unittest

from neverleapt.errors import BadLot
from neverleapt.lots import Lot, every, is_in, lacking, lot_of, moved
from tests.samples import H, deep, odd_things

RIGHT = (-3, 4, (0, 2), 2, (), (0,))
PARTS = ["low", "high", "members", "step", "below", "above"]
LONG = 10 ** 37 + 3


def parts_of(lot):
    return (lot.low, lot.high, lot.members, lot.step, lot.below, lot.above)


def told(parts, number):
    """Whether these six parts tell that a number is in the lot, word by word."""
    low, high, members, step, below, above = parts
    if number < low:
        return number % step in below
    return number in members if number < high else number % step in above


def random_parts(source, steps=6, span=8):
    low = source.randint(-6, 6)
    high = low + source.randint(0, span)
    step = source.randint(1, steps)
    below, above = (
        tuple(rest for rest in range(step) if source.random() < chance)
        for chance in (source.choice([0, 0.3, 0.7, 1]), source.choice([0, 0.3, 0.7, 1]))
    )
    if source.random() < 0.3:
        above = below
    return (low, high, tuple(number for number in range(low, high) if source.random() < 0.5), step, below, above)


def least_form(parts):
    """The least form of what these parts tell near 0, found by looking at all integers up to 150."""
    there = {number: told(parts, number) for number in range(-150, 151)}
    step = next(
        step for step in range(1, 31)
        if all(there[number] == there[number - step] for number in range(step - 150, -40))
        and all(there[number] == there[number + step] for number in range(40, 151 - step))
    )
    below = tuple(rest for rest in range(step) if there[rest - (100 // step + 1) * step])
    above = tuple(rest for rest in range(step) if there[rest + 60 // step * step + step])
    unlike = [number for number in there if there[number] != (number % step in above)]
    if not unlike:
        return (0, 0, (), step, below, above)
    high = max(unlike) + 1
    low = min([number for number in range(-150, high) if there[number] != (number % step in below)], default=high)
    return (low, high, tuple(number for number in range(low, high) if there[number]), step, below, above)


class LotCase(unittest.TestCase):

    def check_bad(self, part, *parts):
        with self.assertRaises(BadLot) as caught:
            Lot(*parts)
        self.assertEqual(caught.exception.part, part)

    def check(self, lot, parts):
        self.assertEqual(parts_of(lot), parts)
        self.assertIs(type(lot), Lot)
        self.assertTrue(all(type(lot_part) is type(part) for lot_part, part in zip(parts_of(lot), parts)))


class Parts(LotCase):

    def test_right_ones(self):
        for parts in (
            RIGHT, (0, 0, (), 1, (), ()), (0, 0, (), 1, (0,), ()), (5, 5, (), 4000, (3999,), (0, 3999)),
            (-100000, 0, (-100000, -1), 1, (), ()), (0, 100000, tuple(range(0, 100000, 7)), 13, (1, 4), ()),
            (LONG, LONG + 100000, (LONG, LONG + 99999), 4000, (), tuple(range(4000))),
        ):
            lot = Lot(*parts)
            for number in (parts[0] - 1, parts[0], parts[1] - 1, parts[1], parts[1] + 3999, parts[0] - 4000, 0, -LONG * 7):
                self.assertIs(is_in(lot, number), told(parts, number))

    def test_each_part_spoiled(self):
        for place, part in enumerate(PARTS):
            for thing in odd_things() + ["", "0", (1, 0), (2, 2), (None,), (0, True), (0, "1"), ((0,),), [0], deep(40)]:
                with self.subTest(part, thing=str(thing)[:40]):
                    self.check_bad(part, *RIGHT[:place], thing, *RIGHT[place + 1:])
                    self.check_bad(part, *RIGHT[:place], thing, *(None for _ in RIGHT[place + 1:]))

    def test_the_first_that_is_wrong(self):
        for first in range(6):
            for second in range(first, 6):
                parts = [None if place in (first, second) else part for place, part in enumerate(RIGHT)]
                self.check_bad(PARTS[first], *parts)

    def test_high(self):
        for low in (-5, 0, LONG, -LONG):
            Lot(low, low, (), 1, (), ())
            Lot(low, low + 100000, (), 1, (), (0,))
            for high in (low - 1, low - LONG, low + 100001, low + LONG):
                self.check_bad("high", low, high, (), 1, (), ())
                self.check_bad("high", low, high, None, 0, None, None)

    def test_members(self):
        for members in (
            (-4,), (4,), (5,), (-4, 0), (0, 4), (0, 0), (2, 0), (0, 2, 2), (0, 2, 1), (LONG,), (-LONG, 0), (True,), (0, None),
        ):
            self.check_bad("members", -3, 4, members, 2, (), (0,))
        Lot(-3, 4, (-3, -2, -1, 0, 1, 2, 3), 2, (), (0,))
        self.check_bad("members", 3, 3, (3,), 1, (), ())

    def test_step(self):
        for step in (1, 2, 3999, 4000):
            Lot(0, 0, (), step, (), (step - 1,))
        for step in (0, -1, -4000, 4001, LONG, -LONG):
            self.check_bad("step", 0, 0, (), step, (), ())
            self.check_bad("step", 0, 0, (), step, (9,), None)

    def test_rests(self):
        for step in (1, 2, 7, 4000):
            for wrong in ((step,), (-1,), (0, step), (0, 0), (step - 1, -1), (LONG,), (True,), (0, None)):
                self.check_bad("below", 0, 0, (), step, wrong, ())
                self.check_bad("above", 0, 0, (), step, (), wrong)
            whole = tuple(range(step))
            self.check(Lot(0, 5, (0, 1, 2, 3, 4), step, whole, whole), (0, 0, (), 1, (0,), (0,)))

    def test_flags(self):
        self.check_bad("low", False, 1, (), 1, (), ())
        self.check_bad("high", 0, True, (), 1, (), ())
        self.check_bad("members", 0, 1, (False,), 1, (), ())
        self.check_bad("step", 0, 1, (0,), True, (), ())
        self.check_bad("below", 0, 1, (0,), 1, (False,), ())
        self.check_bad("above", 0, 1, (0,), 1, (0,), (False,))


class LeastForm(LotCase):

    def test_by_hand(self):
        for parts, least in (
            (RIGHT, (-1, -1, (), 2, (), (0,))),
            ((0, 0, (), 4000, (), ()), (0, 0, (), 1, (), ())),
            ((7, 90, (), 3, (), ()), (0, 0, (), 1, (), ())),
            ((7, 9, (7, 8), 6, (0, 1, 2, 3, 4, 5), (0, 1, 2, 3, 4, 5)), (0, 0, (), 1, (0,), (0,))),
            ((7, 9, (7,), 4, (1, 3), (1, 3)), (0, 0, (), 2, (1,), (1,))),
            ((7, 9, (8,), 4, (1, 3), (1, 3)), (7, 9, (8,), 2, (1,), (1,))),
            ((0, 9, (4,), 1, (), ()), (4, 5, (4,), 1, (), ())),
            ((6, 6, (), 6, (0, 3), (0, 2, 4)), (5, 5, (), 6, (0, 3), (0, 2, 4))),
            ((0, 0, (), 1, (), (0,)), (0, 0, (), 1, (), (0,))),
            ((-9, 9, tuple(range(3, 9)), 5, (), (0, 1, 2, 3, 4)), (3, 3, (), 1, (), (0,))),
            ((0, 3, (1,), 2, (0,), (0,)), (0, 3, (1,), 2, (0,), (0,))),
            ((0, 6, (0, 2, 3, 4), 2, (0,), (0,)), (3, 4, (3,), 2, (0,), (0,))),
            ((-1, 4, (), 2, (0,), (1,)), (0, 4, (), 2, (0,), (1,))),
            ((4, 4, (), 4000, (0,), (0,)), (0, 0, (), 4000, (0,), (0,))),
            ((4, 4, (), 12, (0, 4, 8), (0, 3, 6, 9)), (4, 4, (), 12, (0, 4, 8), (0, 3, 6, 9))),
            ((LONG, LONG + 3, (LONG + 1,), 1, (), ()), (LONG + 1, LONG + 2, (LONG + 1,), 1, (), ())),
            ((-LONG, -LONG + 3, (-LONG + 1,), 2, (0, 1), ()), (-LONG, -LONG + 2, (-LONG + 1,), 1, (0,), ())),
        ):
            with self.subTest(parts):
                self.check(Lot(*parts), least)

    def test_by_all_integers(self):
        source = random.Random(41)
        for _ in range(1500):
            parts = random_parts(source)
            self.check(Lot(*parts), least_form(parts))

    def test_far_from_0(self):
        source = random.Random(42)
        for _ in range(300):
            parts = random_parts(source)
            far = source.choice([1, -1]) * source.randint(10 ** 37, 10 ** 38) * 60
            there = (parts[0] + far, parts[1] + far, tuple(number + far for number in parts[2])) + parts[3:]
            low, high, members, *rest = least_form(parts)
            if low == high and rest[1] == rest[2]:
                self.check(Lot(*there), (low, high, members, *rest))
            else:
                self.check(Lot(*there), (low + far, high + far, tuple(number + far for number in members), *rest))

    def test_each_description(self):
        source = random.Random(43)
        for _ in range(300):
            parts = random_parts(source)
            lot = Lot(*parts)
            times = source.randint(1, 5)
            low, high = parts[0] - source.randint(0, 9), parts[1] + source.randint(0, 9)
            step = parts[3] * times
            wider = Lot(
                low, high, tuple(number for number in range(low, high) if told(parts, number)), step,
                tuple(rest for rest in range(step) if rest % parts[3] in parts[4]),
                tuple(rest for rest in range(step) if rest % parts[3] in parts[5]),
            )
            self.check(wider, parts_of(lot))
            self.assertTrue(lot == wider)
            self.assertFalse(lot != wider)
            self.check(Lot(*parts_of(lot)), parts_of(lot))

    def test_greatest_sizes(self):
        members = tuple(range(0, 100000, 2))
        evens = tuple(range(0, 4000, 2))
        self.check(Lot(0, 100000, members, 4000, evens, evens), (0, 0, (), 2, (0,), (0,)))
        self.check(Lot(0, 100000, members, 4000, evens, ()), (99999, 99999, (), 2, (0,), ()))
        self.check(Lot(0, 100000, members, 4000, (), evens), (-1, -1, (), 2, (), (0,)))
        self.check(Lot(0, 100000, members[1:], 4000, evens, evens), (0, 1, (), 2, (0,), (0,)))
        eighths = tuple(range(1, 4000, 8))
        self.check(Lot(1, 1, (), 4000, (7,), eighths), (-6, -6, (), 4000, (7,), eighths))


class Equal(LotCase):

    def test_just_with_the_same_integers(self):
        source = random.Random(44)
        lots = [random_parts(source, 3, 3) for _ in range(120)]
        for one in lots:
            for other in lots:
                same = all(told(one, number) == told(other, number) for number in range(-30, 31))
                self.assertIs(Lot(*one) == Lot(*other), same)
                self.assertIs(Lot(*one) != Lot(*other), not same)

    def test_to_nothing_else(self):
        lot = Lot(*RIGHT)
        for other in odd_things() + [RIGHT, list(RIGHT), 0, "lot", H, (lot,), [lot]]:
            self.assertFalse(lot == other)
            self.assertTrue(lot != other)
            self.assertFalse(other == lot)

    def test_of_returned_ones(self):
        self.assertTrue(Lot(0, 0, (), 3, (1,), (1,)) == every(3, 1))
        self.assertTrue(Lot(2, 5, (2, 4), 9, (), ()) == lot_of([4, 2, 4]))
        self.assertTrue(Lot(2, 5, (2, 4), 9, (), ()) == moved(lot_of([0, 2]), 2))
        self.assertTrue(lacking(every(2, 0)) == every(2, 1))

    def test_greater_than_a_caller_may_construct(self):
        lot = lot_of([0, 100000])
        self.check(lot, (0, 100001, (0, 100000), 1, (), ()))
        self.check_bad("high", *parts_of(lot))
        self.assertTrue(lot == lot_of((100000, 0)))

    def test_example_e09(self):
        self.check(Lot(-3, 4, (0, 2), 2, (), (0,)), (-1, -1, (), 2, (), (0,)))


if __name__ == "__main__":
    unittest.main()
