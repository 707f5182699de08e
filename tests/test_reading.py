"""14.2: texts that cannot be read, and the first line that is wrong."""

import random
import unittest

from neverleapt.errors import BadLot, BadMachine, BadText
from neverleapt.lots import Lot, every
from neverleapt.machines import Machine
from neverleapt.reading import read_lot, read_machine, read_share, read_table
from neverleapt.texts import lot_text, machine_text, table_text
from tests.samples import KNOTTED, odd_things
from tests.test_texts import drawn_lot

LOT = "step 6 low -9 high 9 below 0,4 members -9,8 above 0,1,5"
GOOD_LOT = Lot(-9, 9, (-9, 8), 6, (0, 4), (0, 1, 5))
NO_STRINGS = [thing for thing in odd_things() if not isinstance(thing, str)] + [0, 1, True, (), ("machine 1\n",), b"1"]
# What is no number where none below 0 can stand, and what is none anywhere.
NO_COUNTS = [
    "", "-", "+1", "-0", "+0", "00", "01", "007", "-01", "--1", "1-", "1.0", "1e1", "1_0", "0x1", "x", "1x", "a", "1,", ",1",
    "1\t", "\t1", "1|", "one", "1" * 41, "9" * 41, "1" + "0" * 40, "1" * 5000, "1/1", "(1)", "'1'",
]
NO_NUMBERS = NO_COUNTS + ["-" + "1" * 41, "-00", "-+1", "- 1"]


class ReadingCase(unittest.TestCase):

    def bad(self, read, text, line):
        with self.assertRaises(BadText) as caught:
            read(text)
        self.assertEqual(caught.exception.line, line, repr(text)[:80])
        self.assertIs(type(caught.exception.line), int)

    def bad_part(self, error, read, text, part):
        with self.assertRaises(error) as caught:
            read(text)
        self.assertEqual(caught.exception.part, part, repr(text)[:80])


class Strings(ReadingCase):

    def test_no_strings(self):
        for thing in NO_STRINGS:
            for read in (read_share, read_machine, read_lot, read_table):
                self.bad(read, thing, 0)

    def test_texts_without_a_line(self):
        for read in (read_machine, read_lot, read_table):
            self.bad(read, "", 1)
            self.bad(read, "\n", 1)
            self.bad(read, "\n\n", 1)
            self.bad(read, " ", 1)
            self.bad(read, " \n", 1)
            self.bad(read, "x" * 20000, 1)
            self.bad(read, "\n" * 20000, 1)
            self.bad(read, "\t", 1)


class Shares(ReadingCase):

    def test_no_texts_of_shares(self):
        for text in [
            "", "/", "1/", "/2", "1/1", "0/1", "-1/1", "2/4", "6/3", "0/2", "1/0", "0/0", "1/-2", "1/+2", "-/2", "--1/2", "1//2",
            "1/2/3", "1/2/", "1 /2", "1/ 2", " 1/2", "1/2 ", "1/2\n", "\n1/2", "1\n", " 1", "1 ", "01", "1/02", "01/2", "00",
            "-0", "+0", "-0/1", "+1", "+1/2", "-", "1.5", "1,2", "1:2", "1|2", "1\t", "\t1/2", "A/B", "(1, 2)", "half", "1/2x",
            "1" * 41, "1/" + "3" * 41, "-" + "1" * 41, "9" * 5000, "1/" + "9" * 5000, "1" * 20000, "/" * 20000,
        ]:
            self.bad(read_share, text, 1)

    def test_forty_figures(self):
        self.assertEqual(read_share("1" * 40), (int("1" * 40), 1))
        self.assertEqual(read_share("-" + "1" * 40 + "/2"), (-int("1" * 40), 2))
        self.assertEqual(read_share("-1/" + "9" * 40), (-1, int("9" * 40)))


class Machines(ReadingCase):

    def test_each_place_of_a_number(self):
        for word in NO_COUNTS + ["-1"]:
            self.bad(read_machine, f"machine {word}\n", 1)
            self.bad(read_machine, f"machine {word}\nevent 0 0 1 1\n", 1)
            for place in range(3):
                words = ["0", "0", "1", "1"]
                words[place] = word
                self.bad(read_machine, f"machine 1\nevent 0 0 1 0\nevent {' '.join(words)}\n", 3)
        for word in NO_NUMBERS:
            self.bad(read_machine, f"machine 1\nevent 0 0 1 {word}\nevent 0 0 1 0\n", 2)

    def test_words(self):
        for line in (
            "", " ", "machine", "machine ", "machine  1", " machine 1", "machine 1 ", "machine 1 1", "Machine 1", "machin 1",
            "machines 1", "machine\t1", "machine 1\t", "event 0 0 1 1", "table 1", "1 machine", "1", "machine1", "machine,1",
        ):
            self.bad(read_machine, line + "\n", 1)
            self.bad(read_machine, line + "\nevent 0 0 1 1\n", 1)
        for line in (
            "", " ", "event", "event 0", "event 0 0", "event 0 0 1", "event 0 0 1 1 1", "event  0 0 1 1", "event 0 0  1 1",
            "event 0 0 1 1 ", " event 0 0 1 1", "event\t0 0 1 1", "event 0 0 1\t1", "event 0 0 1 1\t", "Event 0 0 1 1",
            "events 0 0 1 1", "machine 1", "machine 0 0 1 1", "0 0 1 1", "event 0,0 1 1", "event 0 0 1 1|", "step 1",
        ):
            self.bad(read_machine, "machine 1\n" + line + "\n", 2)
            self.bad(read_machine, "machine 1\nevent 0 0 1 1\n" + line + "\nevent 0 0 1\n", 3)

    def test_ends(self):
        for text, line in (
            ("machine 1", 1), ("machine 1\nevent 0 0 1 1", 2), ("machine 1\n ", 2), ("machine 1\n\n", 2), ("machine 1\n\t", 2),
            ("machine 1\nevent 0 0 1 1\nx", 3), ("machine 1\nevent 0 0 1 1\nmachine 1", 3), ("machine x\nevent", 1),
            ("machine 1\nevent 0 0 1\nx", 2), ("event 0 0 1 1", 1), ("event 0 0 1 1\nmachine 1\n", 1), ("\nmachine 1\n", 1),
            ("machine 1\nmachine 1\n", 2), ("machine 1\nevent 0 0 1 1\n\n", 3), ("machine 1\n\nevent 0 0 1 1\n", 2),
        ):
            self.bad(read_machine, text, line)

    def test_text_ahead_of_machine(self):
        # The words are judged all, ahead of what they tell.
        self.bad(read_machine, "machine 0\nevent 9 9 0 500\nevent\n", 3)
        self.bad(read_machine, "machine 13\nevent 9 9 0 500", 2)
        self.bad(read_machine, "machine 1\n" + "event 0 0 1 1\n" * 31 + "event 0 0 1 01\n", 33)

    def test_bad_machine(self):
        for text, part in (
            ("machine 0\n", "standings"), ("machine 13\n", "standings"), (f"machine {'9' * 40}\n", "standings"),
            ("machine 0\n" + "event 0 0 1 1\n" * 31, "standings"), ("machine 1\n" + "event 0 0 1 1\n" * 31, "events"),
            ("machine 1\n" + "event 5 0 1 1\n" * 31, "events"), ("machine 1\nevent 0 1 1 1\n", 0),
            ("machine 2\nevent 0 1 1 1\nevent 2 0 1 1\n", 1), ("machine 2\nevent 0 1 1 1\nevent 0 0 0 1\n", 1),
            ("machine 2\nevent 0 1 1 1\nevent 0 0 41 1\nevent 9 9 9 9\n", 1), ("machine 1\nevent 0 0 1 401\n", 0),
            ("machine 1\nevent 0 0 1 -401\n", 0), (f"machine 1\nevent 0 0 1 -{'9' * 40}\n", 0),
            (f"machine 1\nevent 0 0 {'9' * 40} 1\n", 0), (f"machine 1\nevent {'1' * 40} 0 1 1\n", 0),
        ):
            self.bad_part(BadMachine, read_machine, text, part)

    def test_right_ones(self):
        self.assertTrue(read_machine("machine 1\n") == Machine(1, ()))
        self.assertTrue(read_machine("machine 12\nevent 11 0 40 -400\nevent 0 11 1 400\nevent 3 3 9 0\n") == Machine(
            12, ((11, 0, 40, -400), (0, 11, 1, 400), (3, 3, 9, 0))))
        self.assertTrue(read_machine("machine 1\n" + "event 0 0 1 1\n" * 30) == Machine(1, ((0, 0, 1, 1),) * 30))


class Lots(ReadingCase):

    def test_right_ones(self):
        self.assertTrue(read_lot(LOT + "\n") == GOOD_LOT)
        self.assertTrue(read_lot("step 4 low 3 high 3 below 0,2 members - above 0,2\n") == every(2, 0))
        self.assertTrue(read_lot("step 1 low -5 high 100 below - members -5,0,99 above -\n") == Lot(-5, 100, (-5, 0, 99), 1, (), ()))

    def test_each_place_of_a_number(self):
        places = {"step": 1, "low": 3, "high": 5, "below": 7, "members": 9, "above": 11}
        for name, place in places.items():
            wrong = NO_COUNTS if name in ("step", "below", "above") else NO_NUMBERS
            for word in wrong + (["-1", "-1,2", "1,-2"] if name in ("step", "below", "above") else []):
                words = LOT.split(" ")
                words[place] = word
                if word == "-" and place > 5:
                    continue
                self.bad(read_lot, " ".join(words) + "\n", 1)
                self.bad(read_table, "table 2\n" + LOT + "\n" + " ".join(words) + "\n", 3)
                if place > 5:
                    words[place] = "3," + word + ",5"
                    self.bad(read_lot, " ".join(words) + "\n", 1)
                    words[place] = word + ",5"
                    self.bad(read_lot, " ".join(words) + "\n", 1)
            if place < 6:
                words = LOT.split(" ")
                for word in ("1,2", "-,1", "1,", "-"):
                    words[place] = word
                    self.bad(read_lot, " ".join(words) + "\n", 1)

    def test_lists(self):
        for name in ("below", "members", "above"):
            for word in ("", ",", "1,", ",1", "1,,2", "1,2,", "-,", ",-", "-,1", "1,-", "--", "1;2", "1, 2", "1.2", "none", "()"):
                words = LOT.split(" ")
                words[words.index(name) + 1] = word
                self.bad(read_lot, " ".join(words) + "\n", 1)
        # Well told, but not ascending.
        for name, word in (
            ("below", "4,0"), ("below", "0,0"), ("below", "6"), ("members", "8,-9"), ("members", "8,8"), ("members", "9"),
            ("members", "-10"), ("above", "1,0"), ("above", "0,6"), ("below", "9" * 40), ("members", "-" + "9" * 40),
            ("step", "0"), ("step", "4001"), ("step", "9" * 40), ("high", "-10"), ("high", "99992"), ("high", "9" * 40),
            ("low", "10"), ("low", "-" + "9" * 40),
        ):
            words = LOT.split(" ")
            words[words.index(name) + 1] = word
            part = "high" if name == "low" else name
            self.bad_part(BadLot, read_lot, " ".join(words) + "\n", part)

    def test_words(self):
        words = LOT.split(" ")
        for place in range(0, 12, 2):
            for word in ("", "x", words[place].upper(), words[place] + "s", words[place] + "\t", "1", "-", words[place - 2]):
                self.bad(read_lot, " ".join(words[:place] + [word] + words[place + 1:]) + "\n", 1)
        for place in range(12):
            self.bad(read_lot, " ".join(words[:place] + words[place + 1:]) + "\n", 1)
            self.bad(read_lot, " ".join(words[:place] + [words[place]] + words[place:]) + "\n", 1)
            self.bad(read_lot, " ".join(words[:place] + [""] + words[place:]) + "\n", 1)
            self.bad(read_lot, " ".join(words[:place] + ["\t" + words[place]] + words[place + 1:]) + "\n", 1)
        self.bad(read_lot, LOT + " \n", 1)
        self.bad(read_lot, " " + LOT + "\n", 1)
        self.bad(read_lot, "table 1\n" + LOT + "\n", 1)
        self.bad(read_lot, "machine 1\n", 1)

    def test_ends(self):
        for text, line in (
            (LOT, 1), (LOT + "\n" + LOT, 2), (LOT + "\n" + LOT + "\n", 2), (LOT + "\n\n", 2), (LOT + "\nx", 2), (LOT + "\n ", 2),
            (LOT + "\n\n\n\nx", 2), ("x\n" + LOT + "\n", 1), ("\n" + LOT + "\n", 1), (LOT + "x\n" + LOT, 1),
        ):
            self.bad(read_lot, text, line)

    def test_first_part_that_is_wrong(self):
        self.bad_part(BadLot, read_lot, "step 0 low 5 high 4 below 9 members 9 above 9\n", "high")
        self.bad_part(BadLot, read_lot, "step 0 low 5 high 6 below 9 members 9 above 9\n", "members")
        self.bad_part(BadLot, read_lot, "step 0 low 5 high 6 below 9 members 5 above 9\n", "step")
        self.bad_part(BadLot, read_lot, "step 9 low 5 high 6 below 9 members 5 above 9\n", "below")
        self.bad_part(BadLot, read_lot, "step 9 low 5 high 6 below 8 members 5 above 9\n", "above")
        # The words are judged ahead of what they tell.
        self.bad(read_lot, "step 0 low 5 high 4 below 9 members 9 above 9\nx", 2)


class Tables(ReadingCase):

    def test_right_ones(self):
        self.assertEqual(read_table("table 0\n"), ())
        self.assertTrue(read_table(f"table 1\n{LOT}\n") == (GOOD_LOT,))
        self.assertTrue(read_table("table 13\n" + (LOT + "\n") * 13) == (GOOD_LOT,) * 13)

    def test_the_first_line(self):
        for word in NO_COUNTS + ["-1"]:
            self.bad(read_table, f"table {word}\n", 1)
            self.bad(read_table, f"table {word}\n{LOT}\n", 1)
        for line in ("", "table", "table ", "table  1", " table 1", "table 1 ", "table 1 1", "Table 1", "tables 1", "table\t1", LOT):
            self.bad(read_table, f"{line}\n{LOT}\n", 1)

    def test_too_many_and_too_few(self):
        for many, lots, line in (
            (0, 1, 2), (0, 3, 2), (1, 2, 3), (1, 5, 3), (1, 0, 2), (2, 1, 3), (2, 0, 2), (12, 11, 13), (12, 13, 14),
            ("9" * 40, 3, 5), ("1" + "0" * 30, 0, 2),
        ):
            self.bad(read_table, f"table {many}\n" + (LOT + "\n") * lots, line)

    def test_ends(self):
        for text, line in (
            ("table 0", 1), ("table 1", 1), ("table 0\n\n", 2), ("table 0\nx", 2), ("table 0\n" + LOT, 2), ("table 1\n" + LOT, 2),
            (f"table 1\n{LOT}\nx", 3), (f"table 1\n{LOT}\n\n", 3), (f"table 1\n\n{LOT}\n", 2), (f"table 2\n{LOT}\n\n{LOT}\n", 3),
            (f"table 2\n{LOT}\nx", 3), (f"table 1\n{LOT}\n{LOT}", 3), (f"table 1\nx\n{LOT}\n", 2), (f"table 2\ntable 1\n{LOT}\n", 2),
            (f"table 1\n{LOT}\ntable 1\n", 3), (f"table 2\n{LOT}\ntable 1\n", 3), (f"\ntable 1\n{LOT}\n", 1),
            (f"table 1\n{LOT}x\n{LOT}\n", 2), (f"table 1\n{LOT}\nx\nx\nx", 3),
        ):
            self.bad(read_table, text, line)

    def test_bad_lot(self):
        wrong = LOT.replace("step 6", "step 0").replace("below 0,4", "below 4,0")
        self.bad_part(BadLot, read_table, f"table 3\n{LOT}\n{wrong}\n{LOT.replace('high 9', 'high -10')}\n", "step")
        self.bad(read_table, f"table 3\n{LOT}\n{wrong}\n{LOT} \n", 4)
        self.bad(read_table, f"table 3\n{LOT}\n{wrong}\n", 4)
        self.bad(read_table, f"table 1\n{LOT}\n{wrong}\n", 3)


class Drawn(ReadingCase):

    def test_one_sign_changed(self):
        source = random.Random(291)
        machine = Machine(5, KNOTTED.events[:5])
        texts = [
            (read_machine, machine_text, machine_text(machine)), (read_lot, lot_text, LOT + "\n"),
            (read_table, table_text, table_text((GOOD_LOT, every(3, 1), drawn_lot(source)))),
        ]
        seen = {}
        for read, write, text in texts:
            for _ in range(1500):
                place = source.randrange(len(text))
                sign = source.choice("0123456789- ,\n\tae|+")
                word = source.choice([sign, sign + text[place], ""])
                changed = text[:place] + word + text[place + 1:]
                number = text[:place].count("\n") + 1
                try:
                    told = read(changed)
                except BadText as error:
                    # The line of the change is wrong, or, where a line feed came or went, one next to it or the last.
                    self.assertGreaterEqual(error.line, number)
                    self.assertLessEqual(error.line, changed.count("\n") + 1)
                    if "\n" not in word and text[place] != "\n":
                        self.assertIn(error.line, (number, changed.count("\n") + 1))
                    kind = "text"
                except (BadMachine, BadLot):
                    kind = "part"
                else:
                    # What was read is written so, but for lots that are not in least form.
                    self.assertTrue(read(write(told)) == told)
                    if read is read_machine:
                        self.assertEqual(write(told), changed)
                    kind = "right"
                seen[kind] = seen.get(kind, 0) + 1
        self.assertGreater(min(seen.values()), 100)


if __name__ == "__main__":
    unittest.main()
