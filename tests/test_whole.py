"""Over the whole program: all functions agree on one machine, and on the same one changed."""

import random
import unittest
from fractions import Fraction

from neverleapt.betweens import between, often, surely_met
from neverleapt.chances import chance, meeting_chance
from neverleapt.changes import bundled, mirrored, parted, scaled, shifted
from neverleapt.counts import many_leaping, many_meeting, many_runs, run_at, run_number
from neverleapt.desk import Desk
from neverleapt.errors import TooMany
from neverleapt.knots import hangs, knots, reached
from neverleapt.leaping import is_leap, late_leap, leap, leap_behind, leaps, meets, widest
from neverleapt.live import Board
from neverleapt.logs import first_wrong, fitting, next_shares, surely_leapt
from neverleapt.lots import is_in, is_part
from neverleapt.machines import Machine, boards, ends_at, is_run, shares
from neverleapt.marking import last_leap, last_leap_run, mark, marks
from neverleapt.mends import fewest_struck, is_mend, least_shown
from neverleapt.phrases import is_told, spoken
from neverleapt.phrasetexts import phrase_text, read_phrase
from neverleapt.reading import read_machine, read_share, read_table
from neverleapt.rings import area, ends, is_balanced, lift, measure, net, value
from neverleapt.stretches import all_never, never_with, unlike_never
from neverleapt.tables import is_closed, is_table, table_fault, values
from neverleapt.texts import machine_text, share_text, table_text
from neverleapt.verdicts import never, rule
from tests.likeness import changed_share, likenesses, pair
from tests.phrasesamples import PHRASES
from tests.samples import EMPTY, H, KNOTTED, LINKED, S, T, knotted_machines, random_machines
from tests.slow import GREAT_SHARES

WAYS = ("up", "down")
GREAT = Machine(12, tuple(
    (k % 12, (5 * k + 1) % 12, 1 + 7 * k % 40, 400 - 37 * k % 801) for k in range(30)))


def unless_too_many(function, *arguments):
    """What a function returns, or TooMany, the class, where it raises that."""
    try:
        return function(*arguments)
    except TooMany:
        return TooMany


def drawn_share(machine, source):
    """A share near to those of the events, or a great one."""
    if not machine.events or source.random() < 0.15:
        return source.choice(GREAT_SHARES)
    one, other = source.choice(machine.events), source.choice(machine.events)
    found = Fraction(one[3] + other[3], one[2] + other[2])
    if source.random() < 0.5:
        found += Fraction(source.randint(-2, 2), source.randint(1, 6))
    return pair(found)


def drawn_machines(seed, many):
    """Machines of which half hang together, and some are great."""
    source = random.Random(seed)
    found = [H, S, T, EMPTY, KNOTTED, LINKED, GREAT] + knotted_machines(seed, many // 8)
    for _ in range(many):
        standings, most = source.choice([1, 1, 2, 3, 4]), source.choice([1, 3, 6])
        found.append(Machine(standings, tuple(
            (k % standings, source.randrange(standings), source.randint(1, most), source.randint(-most, most))
            for k in range(source.randint(1, 7)))))
    return found + random_machines(seed, many // 2) + random_machines(seed, many // 8, 12, 30, 40, 400)


def many_kinds(machine, seed):
    """The machine, and the same one mirrored, shifted, scaled, and parted."""
    source = random.Random(seed)
    found = [machine, mirrored(machine), shifted(machine, source.randint(-5, 5)), scaled(machine, source.randint(2, 5))]
    long = [number for number, event in enumerate(machine.events) if event[2] > 1]
    if long:
        number = source.choice(long)
        tries = source.randint(1, machine.events[number][2] - 1)
        found.append(parted(machine, number, tries, source.randint(-9, 9)))
    return found


class Verdicts(unittest.TestCase):

    def check(self, machine, share, way, source):
        never_leapt = unless_too_many(never, machine, share, way)
        if never_leapt is TooMany:
            self.assertFalse(is_balanced(machine, share))
            return
        self.check_tables(machine, share, way, never_leapt)
        self.check_leaps(machine, share, way, never_leapt, source)
        self.check_mends(machine, share, way, never_leapt)
        if is_balanced(machine, share):
            self.check_balanced(machine, share, way, never_leapt, source)
        desk = Desk()
        if machine.standings <= 12 and read_or_none(machine) is not None:
            desk.tell("machine m " + machine_text(machine).replace("\n", "|"))
            told = desk.tell(f"never m {way} {share_text(share)}")
            self.assertEqual(told, "yes" if never_leapt else "no")

    def check_tables(self, machine, share, way, never_leapt):
        table = unless_too_many(values, machine, share)
        if table is TooMany:
            return
        self.assertTrue(is_closed(machine, share, table))
        self.assertIs(is_table(machine, share, way, table), never_leapt)
        fault = table_fault(machine, share, way, table)
        if not never_leapt:
            kind, number, start = fault
            self.assertEqual(kind, "leap")
            self.assertTrue(is_in(table[machine.events[number][0]], start))
            self.assertTrue(start * (start + lift(machine, share, number)) < 0)
        else:
            self.assertIsNone(fault)
        told = unless_too_many(lambda: read_table(table_text(table)) if all(
            lot.step <= 4000 and lot.high - lot.low <= 100000 for lot in table) else table)
        self.assertTrue(told == table)

    def check_leaps(self, machine, share, way, never_leapt, source):
        wide = unless_too_many(widest, machine, share, way)
        run = unless_too_many(leap, machine, share, way)
        if run is None or run is TooMany:
            self.assertTrue(never_leapt or run is TooMany)
            self.assertTrue(wide is None or run is TooMany)
            if never_leapt:
                self.assertEqual(many_leaping(machine, share, way, source.randint(0, 9)), 0)
                self.assertIsNone(leap_behind(machine, share, way, source.randint(1, 12)))
            return
        self.assertFalse(never_leapt)
        self.assertTrue(is_leap(machine, share, way, run))
        self.assertEqual(leaps(machine, share, way, run)[-1:], [len(run) - 1])
        if len(run) <= 7:
            weights = tuple(source.randint(1, 99) for _ in machine.events)
            self.assertGreater(many_leaping(machine, share, way, len(run)), 0)
            self.assertEqual(many_leaping(machine, share, way, len(run) - 1), 0)
            self.assertGreater(chance(machine, share, way, weights, len(run))[0], 0)
            self.assertEqual(chance(machine, share, way, weights, len(run) - 1), (0, 1))
        tries = boards(machine, run)[-2][0]
        if tries <= 60:
            behind = leap_behind(machine, share, way, tries)
            self.assertTrue(is_leap(machine, share, way, behind))
            self.assertEqual(boards(machine, behind)[-2][0], tries)
            self.assertTrue(behind <= run)
        if wide is not TooMany:
            self.assertGreaterEqual(wide[0], abs(lift(machine, share, run[-1])))
            self.assertEqual(wide[0], abs(lift(machine, share, wide[1])))

    def check_mends(self, machine, share, way, never_leapt):
        self.assertIs(is_mend(machine, share, way, ()), never_leapt)
        if len(machine.events) <= 12:
            mend = unless_too_many(fewest_struck, machine, share, way)
            if mend is not TooMany:
                self.assertIs(mend == (0, ()), never_leapt)
                self.assertTrue(is_mend(machine, share, way, mend[1]))
        self.assertIs(unless_too_many(least_shown, machine, share, way, 1) == 1, never_leapt)

    def check_balanced(self, machine, share, way, never_leapt, source):
        self.assertIs(all(amount <= let for _, amount, let in rule(machine, share, way)), never_leapt)
        late = unless_too_many(late_leap, machine, share, way, source.randint(0, 40))
        if late is not TooMany:
            self.assertIs(late is None, never_leapt)
            self.assertTrue(late is None or is_leap(machine, share, way, late))
        if share[1] <= 200:
            self.assertIs(share in never_with(machine, share[1], way), never_leapt)
        self.assertIs(share in unless_too_many(all_never, machine, share, share, way), never_leapt)
        other = drawn_share(machine, source)
        if is_balanced(machine, other):
            low, high = sorted([share, other], key=lambda one: Fraction(*one))
            told = unless_too_many(all_never, machine, low, high, way)
            if told is not TooMany:
                self.assertIs(share in told, never_leapt)
                self.assertTrue(all(never(machine, one, way) for one in told[:4]))
                self.assertEqual(unlike_never(machine, machine, low, high, way), [])

    def test_drawn_machines(self):
        source = random.Random(311)
        seen = {True: 0, False: 0}
        for machine in drawn_machines(312, 130):
            for kind in many_kinds(machine, source.random()):
                share, way = drawn_share(kind, source), source.choice(WAYS)
                self.check(kind, share, way, source)
                seen[unless_too_many(never, kind, share, way) is True] += 1
        self.assertGreater(min(seen.values()), 200)


def read_or_none(machine):
    """The machine read out of its text, None if it is beyond what callers construct."""
    if len(machine.events) > 30 or any(abs(event[3]) > 400 for event in machine.events):
        return None
    return read_machine(machine_text(machine))


class Runs(unittest.TestCase):

    def check(self, machine, share, way, source):
        many = source.randint(0, 7)
        runs = many_runs(machine, many)
        if not runs:
            return 0
        number = source.randrange(runs)
        run = run_at(machine, many, number)
        self.assertTrue(is_run(machine, run))
        self.assertEqual(run_number(machine, run), number)
        leapt, met = leaps(machine, share, way, run), meets(machine, share, run)
        self.check_counts(machine, share, way, run, source)
        self.check_live(machine, share, way, run)
        self.check_logs(machine, share, way, run)
        self.check_between(machine, share, run, source)
        self.check_values(machine, share, run)
        if leapt:
            self.assertIsNot(unless_too_many(never, machine, share, way), True)
            self.assertGreater(many_leaping(machine, share, way, many), 0)
        if met:
            self.assertGreater(many_meeting(machine, share, many), 0)
        return len(leapt) + len(met)

    def check_counts(self, machine, share, way, run, source):
        weights = (source.randint(1, 99),) * len(machine.events)
        for many in range(min(len(run), 4)):
            leapt, met = many_leaping(machine, share, way, many), many_meeting(machine, share, many)
            self.assertLessEqual(max(leapt, met), many_runs(machine, many))
            # A run that has leapt may be at its end; the chance of it stays.
            if leapt:
                self.assertGreater(chance(machine, share, way, weights, many)[0], 0)
            if met:
                self.assertGreater(meeting_chance(machine, share, weights, many)[0], 0)

    def check_live(self, machine, share, way, run):
        board = Board(machine)
        for place, number in enumerate(run):
            self.assertEqual(board.past(), run[:place])
            self.assertIn(number, board.can_come())
            self.assertIs(board.can_leap(share, way), any(
                is_leap(machine, share, way, run[:place] + (other,)) for other in board.can_come()))
            board.come(number)
            self.assertEqual(board.leapt(share, way), len(leaps(machine, share, way, run[:place + 1])))
            self.assertEqual(board.met(share), len(meets(machine, share, run[:place + 1])))
            self.assertEqual(board.shown(), boards(machine, run)[place])
            self.assertEqual(board.share(), shares(machine, run)[place])
        self.assertEqual(board.standing(), ends_at(machine, run))
        tries, points = board.shown()
        self.assertEqual(value(machine, share, run), share[1] * points - share[0] * tries)

    def check_logs(self, machine, share, way, run):
        log = shares(machine, run)
        last = ([(0, 0)] + boards(machine, run))[-1]
        self.assertIn((ends_at(machine, run),) + last, fitting(machine, log))
        self.assertIsNone(first_wrong(machine, log))
        self.assertIs(surely_leapt(machine, log, share, way), bool(leaps(machine, share, way, run)))
        for place, one in enumerate(log):
            self.assertIn(one, next_shares(machine, log[:place]))
        self.assertEqual([mark(one, 3, "even") for one in log], marks(machine, run, 3, "even"))

    def check_between(self, machine, share, run, source):
        shown = [(0, 0)] + boards(machine, run)
        if not run or shown[-1][0] > 60:
            return
        place = source.randrange(len(run))
        log = [pair(Fraction(points, tries)) for tries, points in shown[place:] if tries]
        least, most = often(machine, shown[place], shown[-1], share)
        self.assertTrue(least <= log.count(share) <= most)
        self.assertEqual(between(machine, shown[place], shown[-1], share), (
            "surely" if least else "open" if most else "never"))
        for one in surely_met(machine, shown[place], shown[-1]):
            self.assertIn(one, log)
            self.assertEqual(between(machine, shown[place], shown[-1], one), "surely")

    def check_values(self, machine, share, run):
        table = unless_too_many(values, machine, share)
        if table is not TooMany:
            self.assertTrue(is_in(table[ends_at(machine, run)], value(machine, share, run)))

    def test_drawn_runs(self):
        source = random.Random(313)
        seen = 0
        for machine in drawn_machines(314, 130):
            for kind in many_kinds(machine, source.random()):
                for _ in range(2):
                    seen += self.check(kind, drawn_share(kind, source), source.choice(WAYS), source)
        self.assertGreater(seen, 300)

    def test_spoken_machines(self):
        source = random.Random(315)
        for phrase in PHRASES:
            machine = spoken(read_phrase(phrase_text(phrase)))
            for _ in range(6):
                self.check(machine, drawn_share(machine, source), source.choice(WAYS), source)
            for many in range(5):
                runs = many_runs(machine, many)
                for number in range(min(runs, 5)):
                    run = run_at(machine, many, number)
                    self.assertTrue(is_told(phrase, tuple(machine.events[k][2:] for k in run)))


class Changed(unittest.TestCase):

    def test_likenesses(self):
        source = random.Random(316)
        for machine in drawn_machines(317, 80):
            share, way, seed = drawn_share(machine, source), source.choice(WAYS), source.random()
            for name, other, changed, turned, names in likenesses(machine, share, way, seed):
                self.check_alike(machine, share, way, name, other, changed, turned, names, seed)

    def check_alike(self, machine, share, way, name, other, changed, turned, names, seed):
        told, found = [unless_too_many(never, *one) for one in ((machine, share, way), (other, changed, turned))]
        self.assertTrue(TooMany in (told, found) or told is found, name)
        told, found = [unless_too_many(leap, *one) for one in ((machine, share, way), (other, changed, turned))]
        if TooMany not in (told, found):
            self.assertEqual(None if told is None else len(told), None if found is None else len(found))
            if told is not None:
                self.assertTrue(is_leap(other, changed, turned, tuple(names[number] for number in told)))
                self.assertTrue(name == "reordered" or told == found)
        self.assertEqual((reached(other), knots(other), hangs(other)), (reached(machine), knots(machine), hangs(machine)))
        if ends(machine, 0) is not None:
            due = sorted([changed_share(name, machine, one, seed) for one in ends(machine, 0)], key=lambda one: Fraction(*one))
            self.assertEqual(list(ends(other, 0)), due)
        if name != "scaled":
            self.assertEqual(measure(other, changed, 0), measure(machine, share, 0))
            self.assertEqual(area(other, 0), area(machine, 0))
        if is_balanced(machine, share) and share[1] <= 50 and changed[1] <= 200 and name != "scaled":
            due = [changed_share(name, machine, one, seed) for one in never_with(machine, share[1], way)]
            self.assertEqual(never_with(other, changed[1], turned), sorted(due))

    def test_parted(self):
        source = random.Random(318)
        for machine in drawn_machines(319, 80):
            long = [number for number, event in enumerate(machine.events) if event[2] > 1]
            if not long:
                continue
            number = source.choice(long)
            other = parted(machine, number, source.randint(1, machine.events[number][2] - 1), source.randint(-9, 9))
            share = drawn_share(machine, source)
            self.assertEqual(ends(other, 0), ends(machine, 0))
            self.assertEqual(net(other, 0), net(machine, 0))
            self.assertEqual(measure(other, share, 0), measure(machine, share, 0))
            tables = [unless_too_many(values, one, share) for one in (machine, other)]
            if TooMany not in tables:
                self.assertTrue(tables[1][:machine.standings] == tables[0])
            # Each run of the machine is one of the parted one, with the new event behind each part.
            many = many_runs(machine, 4)
            if many:
                run = run_at(machine, 4, source.randrange(many))
                longer = tuple(k for one in run for k in ((one, len(machine.events)) if one == number else (one,)))
                self.assertTrue(is_run(other, longer))
                self.assertEqual(boards(other, longer)[-1], boards(machine, run)[-1])

    def test_bundled(self):
        source = random.Random(320)
        for machine in drawn_machines(321, 60):
            many = source.randint(1, 3)
            other = unless_too_many(bundled, machine, many)
            if other is TooMany:
                continue
            # The boards of the bundled machine are those behind each so many events.
            share = drawn_share(machine, source)
            due = {boards(machine, run_at(machine, 2 * many, k))[-1] for k in range(min(many_runs(machine, 2 * many), 400))}
            if many_runs(machine, 2 * many) <= 400:
                found = {boards(other, run_at(other, 2, k))[-1] for k in range(many_runs(other, 2))}
                self.assertEqual(found, due)
            tables = [unless_too_many(values, one, share) for one in (machine, other)]
            if TooMany not in tables:
                self.assertTrue(all(is_part(one, whole) for one, whole in zip(tables[1], tables[0])))

    def test_texts_and_desk(self):
        source = random.Random(322)
        for machine in drawn_machines(323, 60):
            self.assertTrue(read_machine(machine_text(machine)) == machine)
            share, way = drawn_share(machine, source), source.choice(WAYS)
            self.assertEqual(read_share(share_text(share)), share)
            desk = Desk()
            desk.tell("machine m " + machine_text(machine).replace("\n", "|"))
            run = unless_too_many(leap, machine, share, way)
            if run is not TooMany:
                told = desk.tell(f"leap m {way} {share_text(share)}")
                self.assertEqual(told, "none" if run is None else " ".join(map(str, run)))
            self.assertEqual(desk.tell(f"measure m {share_text(share)}"), str(measure(machine, share, 0)))


class Marks(unittest.TestCase):

    def test_last_leaps(self):
        source = random.Random(324)
        seen = 0
        for machine in drawn_machines(325, 60):
            for _ in range(6):
                how, told, way = source.choice(["down", "up", "near", "even"]), source.randint(-3, 3), source.choice(WAYS)
                tries = unless_too_many(last_leap, machine, 0, how, told, way)
                if tries is TooMany or tries is None:
                    continue
                seen += 1
                run = last_leap_run(machine, 0, how, told, way)
                shown = marks(machine, run, 0, how)
                self.assertEqual(boards(machine, run)[-2][0], tries)
                low, high = (shown[-2], shown[-1]) if way == "up" else (shown[-1], shown[-2])
                self.assertTrue(low < told < high)
        self.assertGreater(seen, 20)


if __name__ == "__main__":
    unittest.main()
