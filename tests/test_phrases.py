"""2.1: phrases, and the rows that they tell."""

import unittest
from itertools import product

from neverleapt.errors import NoPhrase
from neverleapt.phrases import is_phrase, is_told, spoken
from tests.phrasesamples import (
    HIT, MISS, PHRASES, beginnings, event, many_times, nested, random_phrases,
)
from tests.samples import deep, odd_things

ODD = odd_things() + ["", "event", 0, 1, (), deep(40)]

PAIRS = ((1, 1), (1, 0), (2, 3))


class Phrases(unittest.TestCase):

    def check(self, thing, right):
        self.assertIs(is_phrase(thing), right)
        if not right:
            for again in (
                lambda: is_told(thing, ()), lambda: is_told(thing, None), lambda: spoken(thing),
            ):
                self.assertRaises(NoPhrase, again)

    def test_of_each_kind(self):
        for phrase in PHRASES + random_phrases(41, 100):
            self.check(phrase, True)

    def test_events(self):
        for tries, points in product((1, 2, 39, 40), (-400, -399, -1, 0, 1, 399, 400)):
            self.check(event(tries, points), True)
        for tries, points in ((0, 0), (-1, 0), (41, 0), (10 ** 39, 0), (1, 401), (1, -401), (1, 10 ** 39)):
            self.check(event(tries, points), False)
            self.check(("row", (HIT, event(tries, points))), False)

    def test_times(self):
        for many in (1, 2, 19, 20):
            self.check(("times", many, HIT), True)
        for many in (0, -1, 21, 10 ** 39):
            self.check(("times", many, HIT), False)

    def test_depth(self):
        for depth in range(1, 13):
            self.check(nested(depth), True)
            self.check(many_times(depth - 1), True)
        for depth in (13, 14, 30, 38):
            self.check(nested(depth), False)
            self.check(many_times(depth - 1), False)
        rows = lists = HIT
        for _ in range(11):
            rows = ("row", (MISS, rows))
            lists = ("either", (lists, MISS))
        self.check(rows, True)
        self.check(lists, True)
        self.check(("row", (HIT, rows)), False)
        self.check(("either", (lists, HIT)), False)

    def test_number(self):
        self.check(("row", (HIT,) * 59), True)
        self.check(("row", (HIT,) * 60), False)
        self.check(("either", (HIT,) * 59), True)
        self.check(("either", (HIT,) * 60), False)
        self.check(("row", (HIT,) * 3000), False)
        # Nine of three with the row around them and those behind are 60 with 32 more; one kept twice counts twice.
        three = ("again", ("times", 20, HIT))
        self.check(("row", (three,) * 9 + (HIT,) * 32), True)
        self.check(("row", (three,) * 9 + (HIT,) * 33), False)
        self.check(("row", (three,) * 19 + (HIT,) * 2), True)
        self.check(("row", (three,) * 19 + (HIT,) * 3), False)
        self.check(("row", (("either", (HIT,) * 28), ("either", (HIT,) * 29))), True)
        self.check(("row", (("either", (HIT,) * 29), ("either", (HIT,) * 29))), False)

    def test_rows_of_nothing(self):
        self.check(("row", ()), False)
        self.check(("either", ()), False)
        self.check(("again", ()), False)
        self.check(("times", 3, ()), False)
        self.check(("row", (HIT, ("row", ()))), False)

    def test_lists(self):
        for thing in (
            ["event", 1, 1], ["row", (HIT,)], ("row", [HIT]), ("either", [HIT, MISS]), ("row", (["event", 1, 1],)),
            ["again", HIT], ("again", ["event", 1, 1]), ["times", 2, HIT], ("times", 2, ["event", 1, 1]),
            ("event", [1], 1), ("event", (1,), 1), ("event", (1, 1)), ("row", {0: HIT}),
        ):
            self.check(thing, False)

    def test_flags(self):
        for thing in (("event", True, 1), ("event", 1, True), ("event", 1, False), ("times", True, HIT)):
            self.check(thing, False)
            self.check(("again", thing), False)

    def test_too_few_and_too_many(self):
        for thing in (
            ("event",), ("event", 1), ("event", 1, 1, 1), ("row",), ("row", (HIT,), (HIT,)), ("row", (HIT,), HIT),
            ("either",), ("either", (HIT,), 1), ("again",), ("again", HIT, HIT), ("again", 2, HIT), ("times",),
            ("times", 2), ("times", HIT), ("times", 2, HIT, HIT), ("times", 2, 2, HIT), (HIT,), (HIT, MISS),
        ):
            self.check(thing, False)

    def test_one_in_the_place_of_some(self):
        for thing in (("row", HIT), ("either", HIT), ("again", (HIT,)), ("times", 2, (HIT,)), ("row", "ab")):
            self.check(thing, False)

    def test_kinds(self):
        for kind in ("Event", "event ", "", "rows", "row", "either", "again", "times", b"event", None, 0, ("event",)):
            self.check((kind, 1, 1), False)
        for kind in ("Again", "event", "row", "either", "times", "", "a" * 1000, b"again", None, True, [], ("again",)):
            self.check((kind, HIT), False)

    def test_odd_things(self):
        for thing in ODD:
            with self.subTest(str(thing)[:40]):
                self.check(thing, False)
                self.check(("row", thing), False)
                self.check(("row", (HIT, thing)), False)
                self.check(("either", (thing, HIT)), False)
                self.check(("again", thing), False)

    def test_odd_things_for_words_and_numbers(self):
        for thing in odd_things() + ["", "1", (), (1,), deep(39)]:
            with self.subTest(str(thing)[:40]):
                for phrase in (HIT, ("times", 2, HIT)):
                    for place in range(3):
                        self.check(phrase[:place] + (thing,) + phrase[place + 1:], False)

    def test_argument_stays(self):
        phrase = ("row", (HIT, ("times", 2, ("again", MISS))))
        same = ("row", (HIT, ("times", 2, ("again", MISS))))
        row = ((1, 1), (1, 0))
        is_told(phrase, row)
        spoken(phrase)
        self.assertEqual((phrase, row), (same, ((1, 1), (1, 0))))


class Told(unittest.TestCase):

    def test_all_short_rows(self):
        for phrase in PHRASES + random_phrases(42, 150):
            told = beginnings(phrase, 4)
            for length in range(5):
                for row in product(PAIRS, repeat=length):
                    self.assertIs(is_told(phrase, row), row in told, (phrase, row))

    def test_empty_row(self):
        for phrase in PHRASES:
            self.assertIs(is_told(phrase, ()), True)

    def test_whole_rows_and_longer_ones(self):
        phrase = ("row", (HIT, ("times", 3, ("row", (MISS, HIT))), ("either", (event(2, 3), HIT))))
        for last in ((2, 3), (1, 1)):
            row = ((1, 1),) + ((1, 0), (1, 1)) * 3 + (last,)
            for length in range(len(row) + 1):
                self.assertIs(is_told(phrase, row[:length]), True)
            for pair in PAIRS:
                self.assertIs(is_told(phrase, row + (pair,)), False)
        self.assertIs(is_told(phrase, ((1, 1),) + ((1, 0), (1, 1)) * 3 + ((1, 0),)), False)
        self.assertIs(is_told(("times", 20, HIT), ((1, 1),) * 20), True)
        self.assertIs(is_told(("times", 20, HIT), ((1, 1),) * 21), False)
        self.assertIs(is_told(("times", 20, HIT), ((1, 1),) * 19 + ((1, 0),)), False)

    def test_pairs_beyond_the_bounds(self):
        for pair in ((0, 0), (-1, 5), (41, 0), (1, 401), (10 ** 39, -10 ** 39)):
            self.assertIs(is_told(("again", HIT), (pair,)), False)
            self.assertIs(is_told(("again", HIT), ((1, 1), pair)), False)

    def test_no_rows(self):
        phrase = ("again", HIT)
        for thing in (
            [], [(1, 1)], ([1, 1],), ((1, 1), [1, 1]), ((1,),), ((1, 1, 1),), ((),), (1, 1), ((1, True),), ((True, 1),),
            ((1, 1), (True, 1)), ((1, 1), None), (((1, 1),),), ("11",), (HIT,), ((1, "1"),), HIT, deep(39), ((1, None),),
        ):
            self.assertIs(is_told(phrase, thing), False)
        for thing in ODD:
            if thing != ():
                self.assertIs(is_told(phrase, thing), False)
                self.assertIs(is_told(phrase, (thing,)), False)
        for thing in odd_things() + ["", "1", (), (1,), deep(38)]:
            self.assertIs(is_told(phrase, ((1, thing),)), False)
            self.assertIs(is_told(phrase, ((thing, 1),)), False)

    def test_no_phrase_is_first(self):
        for thing in ODD:
            self.assertRaises(NoPhrase, is_told, thing, ((1, 1),))
            self.assertRaises(NoPhrase, is_told, thing, thing)

    def test_long_rows(self):
        row = ((1, 1), (1, 0)) * 1600
        self.assertIs(is_told(("again", ("either", (HIT, MISS))), row), True)
        self.assertIs(is_told(("again", ("row", (HIT, MISS))), row), True)
        self.assertIs(is_told(("again", ("row", (HIT, MISS))), row + ((1, 0),)), False)
        self.assertIs(is_told(("again", ("again", ("either", (HIT, MISS)))), row + ((2, 3),)), False)

    def test_times_within_times(self):
        row = ((1, 1),) * 3300
        self.assertIs(is_told(many_times(11), row), True)
        self.assertIs(is_told(many_times(11), row[:-1] + ((1, 0),)), False)
        self.assertIs(is_told(many_times(2), row[:400]), True)
        self.assertIs(is_told(many_times(2), row[:401]), False)
        self.assertIs(is_told(many_times(2, 20, ("row", (HIT,) * 4)), row[:1600]), True)
        self.assertIs(is_told(many_times(2, 20, ("row", (HIT,) * 4)), row[:1601]), False)
        skipped = many_times(10, 20, ("again", HIT))
        self.assertIs(is_told(skipped, row), True)
        self.assertIs(is_told(skipped, row + ((1, 0),)), False)
        self.assertIs(is_told(("row", (skipped[2], MISS)), row[:1000] + ((1, 0),)), True)
        self.assertIs(is_told(("row", (skipped[2], MISS)), row[:1000] + ((1, 0), (1, 0))), False)

    def test_either_within_times(self):
        phrase = ("times", 20, ("either", (HIT, ("row", (HIT, HIT, HIT)), ("row", (MISS, MISS)))))
        self.assertIs(is_told(phrase, ((1, 1),) * 60), True)
        self.assertIs(is_told(phrase, ((1, 1),) * 61), False)
        self.assertIs(is_told(phrase, ((1, 1),) * 57 + ((1, 0),) * 2), True)
        self.assertIs(is_told(phrase, ((1, 1),) * 57 + ((1, 0),) * 3), False)
        self.assertIs(is_told(phrase, ((1, 1),) * 58 + ((1, 0),)), False)
        self.assertIs(is_told(phrase, ((1, 0),) * 40), True)
        self.assertIs(is_told(phrase, ((1, 0),) * 41), False)


if __name__ == "__main__":
    unittest.main()
