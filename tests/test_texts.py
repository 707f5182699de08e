"""14.1 and 14.2: shares, machines, lots and tables as texts, and read back."""

import random
import unittest

from neverleapt.changes import bundled, mirrored, parted, scaled, shifted
from neverleapt.chances import chance
from neverleapt.errors import BadLot, BadMachine, NoShare, NoTable
from neverleapt.lots import Lot, every, joined, lacking, lot_of, moved
from neverleapt.machines import Machine
from neverleapt.phrases import spoken
from neverleapt.reading import read_lot, read_machine, read_share, read_table
from neverleapt.tables import values
from neverleapt.texts import lot_text, machine_text, share_text, table_text
from tests.phrasesamples import PHRASES
from tests.samples import EMPTY, H, KNOTTED, LINKED, NO_SHARES, S, T, odd_things, random_machines
from tests.slow import GREAT_SHARES, SHARES

GREAT = Machine(12, tuple(
    (k % 12, (5 * k + 1) % 12, 1 + 7 * k % 40, 400 - 37 * k % 801) for k in range(30)))
LOTS = [
    Lot(0, 0, (), 1, (), ()), Lot(0, 0, (), 1, (0,), (0,)), every(4000, 3999), every(7, 0), lot_of([0]), lot_of([-5, 3, 9]),
    lot_of([10 ** 39, 10 ** 39 - 99999]), lot_of([-10 ** 39]), Lot(-3, 4, (0, 2), 2, (), (0,)), lacking(lot_of([-1, 1])),
    Lot(-20, 30, (-20, -19, -2, 0, 4, 29), 6, (0, 3, 5), (1, 2)), moved(every(3999, 17), 12),
    joined(every(12, 5), lot_of([-7, 8, 9])), Lot(-10 ** 39, -10 ** 39 + 9, (-10 ** 39 + 1,), 2, (1,), ()),
]


def drawn_lot(source):
    """A lot by all kinds of parts, often not told in its least form."""
    low = source.choice([0, source.randint(-30, 30), source.randint(-10 ** 39, 10 ** 39)])
    high = low + source.choice([0, 0, 1, source.randint(0, 40)])
    members = tuple(sorted(source.sample(range(low, high), source.randint(0, high - low))))
    step = source.choice([1, 2, 6, source.randint(1, 20)])
    rests = [tuple(sorted(source.sample(range(step), source.randint(0, step)))) for _ in range(2)]
    return Lot(low, high, members, step, rests[0], rests[1])


def parts_of(lot):
    return (lot.low, lot.high, lot.members, lot.step, lot.below, lot.above)


class Shares(unittest.TestCase):

    def test_word_by_word(self):
        for share, text in (
            ((0, 1), "0"), ((1, 1), "1"), ((-1, 1), "-1"), ((1, 2), "1/2"), ((-1, 2), "-1/2"), ((7, 10), "7/10"),
            ((-30, 7), "-30/7"), ((10 ** 29, 1), "1" + "0" * 29), ((10 ** 29, 10 ** 29 + 1), "1" + "0" * 29 + "/1" + "0" * 28 + "1"),
            ((-10 ** 39, 3), "-1" + "0" * 39 + "/3"),
        ):
            self.assertEqual(share_text(share), text)
            self.assertEqual(read_share(text), share)

    def test_drawn_shares(self):
        source = random.Random(281)
        for share in SHARES + GREAT_SHARES:
            self.assertEqual(read_share(share_text(share)), share)
        for _ in range(200):
            share = (source.randint(-10 ** source.randint(1, 30), 10 ** 29), source.randint(1, 10 ** source.randint(1, 29)))
            if share not in NO_SHARES:
                try:
                    text = share_text(share)
                except NoShare:
                    continue
                self.assertEqual(text, str(share[0]) + ("" if share[1] == 1 else "/" + str(share[1])))
                told = read_share(text)
                self.assertEqual((told, type(told), type(told[0]), type(told[1])), (share, tuple, int, int))

    def test_no_share(self):
        for thing in NO_SHARES + odd_things() + ["1/2", "1", "0"]:
            self.assertRaises(NoShare, share_text, thing)

    def test_greater_than_python_writes(self):
        great = 10 ** 5000
        self.assertEqual(share_text((great + 7, great)), "1" + "0" * 4999 + "7/1" + "0" * 5000)
        self.assertEqual(share_text((-great, 3)), "-1" + "0" * 5000 + "/3")
        self.assertEqual(share_text((10 ** 18, 10 ** 18 - 1)), "1" + "0" * 18 + "/" + "9" * 18)
        self.assertEqual(share_text((-10 ** 36 + 1, 1)), "-" + "9" * 36)
        told = chance(GREAT, (1, 3), "up", tuple(range(70, 100)), 9)
        self.assertEqual(share_text(told), f"{told[0]}/{told[1]}")


class Machines(unittest.TestCase):

    def test_word_by_word(self):
        self.assertEqual(machine_text(EMPTY), "machine 3\n")
        self.assertEqual(machine_text(Machine(12, ((11, 0, 40, -400), (3, 3, 1, 0)))), (
            "machine 12\nevent 11 0 40 -400\nevent 3 3 1 0\n"))

    def test_example_e13(self):
        self.assertEqual(machine_text(H), "machine 1\nevent 0 0 1 1\nevent 0 0 1 0\n")

    def test_there_and_back(self):
        for machine in [H, S, T, EMPTY, KNOTTED, LINKED, GREAT, mirrored(GREAT)] + random_machines(282, 60, 12, 30, 40, 400):
            text = machine_text(machine)
            told = read_machine(text)
            self.assertIs(type(told), Machine)
            self.assertTrue(told == machine)
            self.assertEqual(machine_text(told), text)
            self.assertEqual(text.count("\n"), len(machine.events) + 1)

    def test_returned_machines(self):
        for machine in (bundled(GREAT, 1), shifted(GREAT, 0), parted(KNOTTED, 0, 1, 2)):
            self.assertTrue(read_machine(machine_text(machine)) == machine)
        for machine, part in (
            (spoken(("times", 20, PHRASES[0])), "standings"), (bundled(GREAT, 2), "events"), (scaled(H, 401), 0),
            (shifted(T, -401), 1), (scaled(S, 100), 4), (parted(KNOTTED, 0, 1, -401), 0),
        ):
            text = machine_text(machine)
            self.assertEqual(text.splitlines()[0], f"machine {machine.standings}")
            self.assertEqual(text.splitlines()[1:], ["event " + " ".join(map(str, event)) for event in machine.events])
            with self.assertRaises(BadMachine) as caught:
                read_machine(text)
            self.assertEqual(caught.exception.part, part)

    def test_greater_than_python_writes(self):
        machine = Machine(1, ((0, 0, 1, 1), (0, 0, 1, -2)))
        for _ in range(1500):
            machine = scaled(machine, 1000)
        zeros = "0" * 4500
        self.assertEqual(machine_text(machine), f"machine 1\nevent 0 0 1 1{zeros}\nevent 0 0 1 -2{zeros}\n")


class Lots(unittest.TestCase):

    def test_word_by_word(self):
        for lot, text in (
            (Lot(0, 0, (), 1, (), ()), "step 1 low 0 high 0 below - members - above -\n"),
            (every(1, 0), "step 1 low 0 high 0 below 0 members - above 0\n"),
            (every(7, 3), "step 7 low 0 high 0 below 3 members - above 3\n"),
            (lot_of([5, -2, 0]), "step 1 low -2 high 6 below - members -2,0,5 above -\n"),
            (Lot(-3, 4, (0, 2), 2, (), (0,)), "step 2 low -1 high -1 below - members - above 0\n"),
            (Lot(-9, 9, (-9, 8), 6, (0, 4), (0, 1, 5)), "step 6 low -9 high 9 below 0,4 members -9,8 above 0,1,5\n"),
            (lot_of([-10 ** 39]), f"step 1 low -1{'0' * 39} high -{'9' * 39} below - members -1{'0' * 39} above -\n"),
        ):
            self.assertEqual(lot_text(lot), text)
            self.assertTrue(read_lot(text) == lot)

    def test_there_and_back(self):
        source = random.Random(283)
        for lot in LOTS + [drawn_lot(source) for _ in range(200)]:
            text = lot_text(lot)
            told = read_lot(text)
            self.assertIs(type(told), Lot)
            self.assertTrue(told == lot)
            self.assertEqual(parts_of(told), parts_of(lot))
            self.assertEqual(lot_text(told), text)
            self.assertEqual(text.count("\n"), 1)

    def test_not_in_least_form(self):
        source = random.Random(284)
        for _ in range(200):
            lot = drawn_lot(source)
            times, less, more = source.randint(1, 5), source.randint(0, 9), source.randint(0, 9)
            step, low, high = lot.step * times, lot.low - less, lot.high + more
            rests = [[rest for rest in range(step) if rest % lot.step in some] for some in (lot.below, lot.above)]
            members = [k for k in range(low, lot.low) if k % lot.step in lot.below] + list(lot.members)
            members += [k for k in range(lot.high, high) if k % lot.step in lot.above]
            below, above, inside = [",".join(map(str, some)) or "-" for some in rests + [members]]
            text = f"step {step} low {low} high {high} below {below} members {inside} above {above}\n"
            self.assertTrue(read_lot(text) == lot)
            self.assertTrue(read_table("table 2\n" + text + lot_text(lot)) == (lot, lot))

    def test_lots_beyond_what_is_constructed(self):
        table = values(Machine(2, H.events + ((0, 1, 40, 400),)), (1, 3))
        self.assertTrue(read_table(table_text(table)) == table)
        for lot, part in (
            (lot_of([0, 100000]), "high"), (joined(every(63, 5), every(61, 0)), None), (moved(every(4000, 1), 7), None),
            (lacking(lot_of([7, 100007])), "high"),
        ):
            if part is None:
                self.assertTrue(read_lot(lot_text(lot)) == lot)
            else:
                with self.assertRaises(BadLot) as caught:
                    read_lot(lot_text(lot))
                self.assertEqual(caught.exception.part, part)


class Tables(unittest.TestCase):

    def test_word_by_word(self):
        self.assertEqual(table_text(()), "table 0\n")
        self.assertEqual(table_text((every(1, 0),)), "table 1\n" + lot_text(every(1, 0)))
        self.assertEqual(table_text(tuple(LOTS)), f"table {len(LOTS)}\n" + "".join(map(lot_text, LOTS)))

    def test_there_and_back(self):
        source = random.Random(285)
        for many in (0, 1, 2, 5, 12, 40):
            table = tuple(drawn_lot(source) for _ in range(many))
            told = read_table(table_text(table))
            self.assertIs(type(told), tuple)
            self.assertTrue(told == table)
            self.assertTrue(all(type(lot) is Lot for lot in told))
        for machine in (H, T, S, LINKED, KNOTTED):
            for share in SHARES[:5]:
                table = values(machine, share)
                self.assertTrue(read_table(table_text(table)) == table)

    def test_no_table(self):
        lot = every(2, 1)
        wrong = [lot, [lot], (lot, None), (None, lot), (lot, (lot,)), ((lot,),), {0: lot}, "table 0\n", (0,), [], H, (H,)]
        for thing in wrong + odd_things():
            self.assertRaises(NoTable, table_text, thing)


if __name__ == "__main__":
    unittest.main()
