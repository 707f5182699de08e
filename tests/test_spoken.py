"""2.1: machines that speak phrases."""

import unittest

from neverleapt.changes import bundled, mirrored, parted, scaled, shifted, struck
from neverleapt.errors import NoPhrase, TooMany
from neverleapt.knots import hangs, knots, reached
from neverleapt.machines import Machine, boards, ends_at, is_run
from neverleapt.phrases import is_phrase, is_told, spoken
from neverleapt.rings import ends, end_rings, is_balanced, net
from tests.phrasesamples import HIT, MISS, PHRASES, beginnings, event, events_in, many_times, nested, random_phrases
from tests.samples import deep, led_to, odd_things


def spoken_rows(machine, most):
    """The rows of pairs of all runs of at most so many events."""
    found = {((), 0)}
    newest = found
    for _ in range(most):
        newest = {
            (row + (event[2:],), event[1])
            for row, standing in newest
            for event in machine.events
            if event[0] == standing
        }
        found = found | newest
    return {row for row, _ in found}


class Spoken(unittest.TestCase):

    def check(self, phrase, most=5):
        machine = spoken(phrase)
        self.assertIsInstance(machine, Machine)
        self.assertGreaterEqual(machine.standings, 1)
        self.assertIs(type(machine.events), tuple)
        for one in machine.events:
            self.assertIs(type(one), tuple)
            self.assertEqual(len(one), 4)
            self.assertTrue(all(0 <= standing < machine.standings for standing in one[:2]), one)
        self.assertEqual(spoken_rows(machine, most), beginnings(phrase, most), phrase)

    def test_short_runs(self):
        for phrase in PHRASES:
            self.check(phrase)

    def test_small_random_phrases(self):
        for phrase in random_phrases(43, 300):
            if events_in(phrase) <= 12:
                self.check(phrase, 4)

    def test_longer_random_phrases(self):
        for phrase in random_phrases(44, 150):
            if events_in(phrase) > 12:
                self.check_or_too_many(phrase, 4)

    def check_or_too_many(self, phrase, most):
        try:
            spoken(phrase)
        except TooMany as error:
            self.assertEqual(error.most, 60)
        else:
            self.check(phrase, most)

    def test_rows_of_different_lengths(self):
        self.check(("either", (HIT, ("row", (HIT, HIT)), ("row", (MISS, HIT, HIT, MISS)))), 6)
        self.check(("row", (("either", (HIT, ("row", (HIT, HIT, HIT)))), MISS)), 6)
        self.check(("times", 3, ("either", (HIT, ("row", (MISS, HIT))))), 8)

    def test_again_left_out(self):
        self.check(("row", (("again", HIT), ("again", MISS), event(2, 3))), 6)
        self.check(("row", (event(2, 3), ("again", HIT), ("again", MISS))), 6)
        self.check(("again", ("row", (("again", HIT), ("again", MISS)))), 6)
        self.check(("either", (("again", HIT), ("row", (MISS, HIT)))), 6)
        self.check(("times", 2, ("row", (("again", HIT), ("again", MISS)))), 6)

    def test_times_within_times(self):
        self.check(("times", 2, ("row", (HIT, ("times", 2, ("row", (MISS, ("again", HIT))))))), 9)
        self.check(("times", 2, ("times", 3, ("times", 2, HIT))), 13)
        self.check(("times", 3, ("times", 2, ("either", (HIT, MISS)))), 8)

    def test_twelve_events_are_never_too_many(self):
        events = tuple(event(1 + k, k) for k in range(12))
        for phrase in (
            ("row", events), ("either", events), ("again", ("either", events)), ("again", ("row", events)),
            ("row", tuple(("again", one) for one in events)),
            ("again", ("row", tuple(("again", one) for one in events))),
            ("times", 12, HIT), ("times", 12, ("again", HIT)), ("times", 3, ("times", 4, ("again", HIT))),
            ("times", 6, ("row", (("again", HIT), ("again", MISS)))),
            ("times", 6, ("either", (("again", HIT), ("again", MISS)))),
            ("times", 2, ("row", tuple(("again", one) for one in events[:6]))),
            ("times", 1, ("again", ("either", events))), nested(11, ("times", 12, HIT)), nested(11, ("either", events)),
        ):
            self.assertTrue(is_phrase(phrase))
            self.assertLessEqual(events_in(phrase), 12)
            self.check(phrase, 3)

    def test_great_phrases(self):
        great = (
            many_times(11), many_times(3), many_times(2), many_times(2, 8), ("times", 20, ("row", (HIT, MISS, HIT))),
            ("times", 20, ("row", (HIT, MISS, HIT, MISS))), ("row", tuple(("times", 20, HIT) for _ in range(29))),
            many_times(10, 20, ("again", HIT)), many_times(10, 20, ("again", HIT))[2], ("again", many_times(9)),
            ("row", (HIT,) * 59), ("either", tuple(event(1 + k % 40, k) for k in range(59))),
            ("again", ("row", tuple(("again", event(1 + k, k)) for k in range(29)))),
            ("times", 5, ("either", (HIT,) * 12)), ("times", 20, ("again", ("either", (HIT, MISS, event(2, 3))))),
        )
        for phrase in great:
            self.assertTrue(is_phrase(phrase))
            self.check_or_too_many(phrase, 2)

    def test_no_phrase(self):
        for thing in odd_things() + ["", "event", 0, 1, (), deep(40), nested(13), ("row", (HIT,) * 60), ("times", 21, HIT)]:
            with self.subTest(str(thing)[:40]):
                self.assertRaises(NoPhrase, spoken, thing)

    def test_no_phrase_ahead_of_too_many(self):
        self.assertRaises(NoPhrase, spoken, ("row", (many_times(11),)))
        self.assertRaises(NoPhrase, spoken, many_times(11, 20, ("event", 0, 0)))

    def test_is_a_machine_for_every_function(self):
        phrase = ("again", ("row", tuple(event(1 + k, 3 * k) for k in range(12))))
        machine = spoken(phrase)
        row = tuple((1 + k, 3 * k) for k in range(12)) * 2
        run = self.run_of(machine, row)
        self.assertTrue(is_run(machine, run))
        self.assertFalse(is_run(machine, run + (len(machine.events),)))
        self.assertEqual(boards(machine, run)[-1], (156, 396))
        self.assertIn(ends_at(machine, run), reached(machine))
        self.assertEqual(set(reached(machine)), led_to(machine, 0))
        last = knots(machine)[-1][0]
        self.assertEqual(net(machine, last), ((78, 198),))
        self.assertEqual(ends(machine, last), ((33, 13), (33, 13)))
        self.assertEqual(len(end_rings(machine, last)), 2)
        self.assertIs(is_balanced(machine, (33, 13)), False)
        self.assertTrue(hangs(struck(machine, ())) == hangs(machine))
        for same in (mirrored(mirrored(machine)), shifted(shifted(machine, 9), -9), scaled(machine, 1)):
            self.assertTrue(same == machine)
        self.assertEqual(spoken_rows(bundled(machine, 4), 2), self.bundled_rows(row))
        split = parted(machine, run[11], 1, 0)
        self.assertEqual(split.standings, machine.standings + 1)

    def run_of(self, machine, row):
        """A run with this row of pairs, in a machine that has but one event for each pair and standing."""
        run = ()
        standing = 0
        for pair in row:
            number = [
                number for number, one in enumerate(machine.events) if one[0] == standing and one[2:] == pair
            ][0]
            run += (number,)
            standing = machine.events[number][1]
        return run

    def bundled_rows(self, row):
        """The rows of the first bundles of four of a row."""
        lots = [row[place:place + 4] for place in (0, 4)]
        pairs = tuple((sum(tries for tries, _ in lot), sum(points for _, points in lot)) for lot in lots)
        return {(), pairs[:1], pairs}

    def test_runs_are_told(self):
        for phrase in PHRASES:
            if events_in(phrase) <= 12:
                for row in spoken_rows(spoken(phrase), 6):
                    self.assertTrue(is_told(phrase, row))


if __name__ == "__main__":
    unittest.main()
