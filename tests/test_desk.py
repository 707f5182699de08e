"""15.1 and 15.2: the desk."""

import random
import unittest

from neverleapt.betweens import between
from neverleapt.desk import Desk
from neverleapt.errors import (
    BadMachine, BadText, LeapError, NoBoard, NoLine, NoName, NoStretch, NothingDone, TooMany,
)
from neverleapt.leaping import leap
from neverleapt.machines import Machine, boards
from neverleapt.rings import ends, measure
from neverleapt.stretches import all_never
from neverleapt.texts import machine_text, share_text
from neverleapt.verdicts import never
from tests.samples import EMPTY, H, KNOTTED, LINKED, S, T, odd_things, random_machines, runs_of
from tests.slow import GREAT_SHARES, SHARES

WAYS = ("up", "down")
HITS = "machine 1|event 0 0 1 1|event 0 0 1 0|"
GREAT = Machine(12, tuple(
    (k % 12, (5 * k + 1) % 12, 1 + 7 * k % 40, 400 - 37 * k % 801) for k in range(30)))


def desk_with(**machines):
    desk = Desk()
    for name, machine in machines.items():
        desk.tell(f"machine {name} {machine_text(machine)}".replace("\n", "|"))
    return desk


class DeskCase(unittest.TestCase):

    def check_names(self, desk, names, undoable):
        self.assertEqual(desk.tell("names"), " ".join(sorted(names)) or "none")
        self.assertEqual(desk.undoable(), undoable)
        self.assertIs(type(desk.undoable()), int)

    def bad(self, desk, line, error, field=None, due=None):
        """Whether a line raises an error, and nothing changes by it."""
        names, undoable = desk.tell("names"), desk.undoable()
        with self.assertRaises(LeapError) as caught:
            desk.tell(line)
        self.assertIs(type(caught.exception), error, repr(line)[:80])
        if field:
            self.assertEqual(getattr(caught.exception, field), due, repr(line)[:80])
        self.assertEqual((desk.tell("names"), desk.undoable()), (names, undoable))


class Answers(DeskCase):

    def test_by_hand(self):
        desk = Desk()
        for line, answer in (
            ("names", "none"), ("machine hits " + HITS, "ok"), ("names", "hits"), ("never hits up 4/5", "yes"),
            ("never hits up 7/10", "no"), ("never hits down 4/5", "no"), ("leap hits up 7/10", "0 0 1 0"),
            ("leap hits up 4/5", "none"), ("measure hits 4/5", "1"), ("ends hits", "0 1"),
            ("all hits up 1/4 9/10", "1/2 2/3 3/4 4/5 5/6 6/7 7/8 8/9 9/10"), ("all hits up 3/10 2/5", "none"),
            ("between hits 4:1 30:27 1/2", "surely"), ("between hits 2:1 6:5 7/10", "never"),
            ("between hits 0:0 2:1 1", "open"), ("between hits 0:0 2:3 1", "none"),
            ("machine stars machine 1|event 0 0 1 1|event 0 0 1 2|event 0 0 1 3|event 0 0 1 4|event 0 0 1 5|", "ok"),
            ("all stars up 3 19/4", "4 9/2 14/3 19/4"), ("ends stars", "1 5"), ("names", "hits stars"),
            ("machine down machine 2|event 0 1 2 -3|", "ok"), ("ends down", "none"), ("measure down 1/2", "0"),
            ("never down down -3/2", "yes"), ("between down 0:0 2:-3 -3/2", "surely"), ("drop hits", "ok"),
            ("names", "down stars"), ("undo", "ok"), ("names", "down hits stars"), ("undo", "ok"), ("undo", "ok"),
            ("names", "hits"), ("undo", "ok"), ("names", "none"),
        ):
            told = desk.tell(line)
            self.assertIs(type(told), str)
            self.assertEqual(told, answer, line)

    def test_against_the_functions(self):
        source = random.Random(301)
        seen = {}
        for machine in [H, T, S, EMPTY, KNOTTED, LINKED, GREAT] + random_machines(302, 40, 3, 6):
            desk = desk_with(a=machine)
            runs = runs_of(machine, 3)
            pair = ends(machine, 0)
            self.assertEqual(desk.tell("ends a"), " ".join(map(share_text, pair)) if pair else "none")
            for share in source.sample(SHARES, 3) + [source.choice(GREAT_SHARES)]:
                text = share_text(share)
                self.assertEqual(desk.tell(f"measure a {text}"), str(measure(machine, share, 0)))
                for way in WAYS:
                    self.check_alike(seen, desk, f"never a {way} {text}",
                                     lambda: "yes" if never(machine, share, way) else "no")
                    self.check_alike(seen, desk, f"leap a {way} {text}", lambda: "none" if leap(
                        machine, share, way) is None else " ".join(map(str, leap(machine, share, way))))
                    other = source.choice(SHARES)
                    self.check_alike(seen, desk, f"all a {way} {text} {share_text(other)}", lambda: " ".join(
                        map(share_text, all_never(machine, share, other, way))) or "none")
                shown = [(0, 0)] + boards(machine, source.choice(runs))
                first, last = source.choice(shown), shown[-1]
                if source.random() < 0.3:
                    first, last = (source.randint(0, 3), source.randint(-2, 2)), (source.randint(0, 8), source.randint(-5, 5))
                self.check_alike(
                    seen, desk, f"between a {first[0]}:{first[1]} {last[0]}:{last[1]} {text}",
                    lambda: between(machine, first, last, share))
            self.check_names(desk, ["a"], 1)
        self.assertTrue({"yes", "no", "none", "surely", "never", "open", NoStretch, NoBoard} <= set(seen), seen)

    def check_alike(self, seen, desk, line, answer):
        """Whether a line is answered as a function does, or raises what it raises."""
        try:
            due = answer()
        except LeapError as error:
            self.bad(desk, line, type(error))
            due = type(error)
        else:
            self.assertEqual(desk.tell(line), due)
        seen[due] = seen.get(due, 0) + 1

    def test_two_desks(self):
        desk, other = Desk(), Desk()
        desk.tell("machine a " + HITS)
        self.check_names(other, [], 0)
        self.assertFalse(desk == other)
        self.assertFalse(desk == "names")

    def test_text(self):
        desk = Desk()
        self.assertEqual(desk.tell("machine a machine 3|"), "ok")
        self.assertEqual(desk.tell("ends a"), "none")
        self.assertEqual(desk.tell("machine abcdefgh machine 12|event 11 0 40 -400|"), "ok")
        self.check_names(desk, ["a", "abcdefgh"], 2)


class Undo(DeskCase):

    def test_a_name_kept_twice(self):
        desk = Desk()
        desk.tell("machine a " + HITS)
        self.assertEqual(desk.tell("ends a"), "0 1")
        self.assertEqual(desk.tell("machine a machine 1|event 0 0 1 7|"), "ok")
        self.assertEqual(desk.tell("ends a"), "7 7")
        self.check_names(desk, ["a"], 2)
        self.assertEqual(desk.tell("undo"), "ok")
        self.assertEqual(desk.tell("ends a"), "0 1")
        self.assertEqual(desk.tell("drop a"), "ok")
        self.bad(desk, "ends a", NoName, "name", "a")
        self.assertEqual(desk.tell("machine a machine 1|event 0 0 2 7|"), "ok")
        self.assertEqual(desk.tell("ends a"), "7/2 7/2")
        self.check_names(desk, ["a"], 3)
        self.assertEqual(desk.tell("undo"), "ok")
        self.check_names(desk, [], 2)
        self.assertEqual(desk.tell("undo"), "ok")
        self.assertEqual(desk.tell("ends a"), "0 1")
        self.assertEqual(desk.tell("undo"), "ok")
        self.check_names(desk, [], 0)
        self.bad(desk, "undo", NothingDone)

    def test_nothing_done(self):
        desk = Desk()
        self.bad(desk, "undo", NothingDone)
        for line in ("names", "drop a", "never a up 1/2", "machine a x", "x"):
            try:
                desk.tell(line)
            except LeapError:
                pass
            self.bad(desk, "undo", NothingDone)
        self.check_names(desk, [], 0)

    def test_questions_are_not_taken_back(self):
        desk = desk_with(a=H)
        for line in ("names", "never a up 1/2", "leap a up 1/2", "measure a 1/2", "ends a", "all a up 1/2 2/3", "between a 0:0 1:1 1"):
            desk.tell(line)
            self.check_names(desk, ["a"], 1)
        self.assertEqual(desk.tell("undo"), "ok")
        self.check_names(desk, [], 0)

    def test_drawn_lines_against_kept_states(self):
        source = random.Random(303)
        machines = [machine for machine in random_machines(304, 20, 3, 4)]
        for _ in range(40):
            desk, states = Desk(), [{}]
            for _ in range(30):
                word, name = source.random(), source.choice(["a", "b", "zz"])
                if word < 0.4:
                    machine = source.choice(machines)
                    self.assertEqual(desk.tell(f"machine {name} {machine_text(machine)}".replace("\n", "|")), "ok")
                    states.append({**states[-1], name: machine})
                elif word < 0.6:
                    if name in states[-1]:
                        self.assertEqual(desk.tell(f"drop {name}"), "ok")
                        states.append({one: states[-1][one] for one in states[-1] if one != name})
                    else:
                        self.bad(desk, f"drop {name}", NoName, "name", name)
                elif word < 0.9:
                    if len(states) > 1:
                        self.assertEqual(desk.tell("undo"), "ok")
                        states.pop()
                    else:
                        self.bad(desk, "undo", NothingDone)
                else:
                    line, error = source.choice([
                        ("", NoLine), ("machine a x", BadText), ("machine a machine 0|", BadMachine), ("never c up 1", NoName)])
                    self.bad(desk, line, error)
                self.check_names(desk, list(states[-1]), len(states) - 1)
                for one, machine in states[-1].items():
                    pair = ends(machine, 0)
                    self.assertEqual(desk.tell(f"ends {one}"), " ".join(map(share_text, pair)) if pair else "none")


class Errors(DeskCase):

    def test_no_strings(self):
        desk = desk_with(a=H)
        for thing in odd_things() + [0, True, ("names",), ["names"], b"names", None]:
            if not isinstance(thing, str):
                self.bad(desk, thing, NoLine)
        self.check_names(desk, ["a"], 1)

    def test_no_lines(self):
        desk = desk_with(a=H)
        for line in (
            "", " ", "\n", "\t", "names\n", "\nnames", " names", "names ", "names\t", "\tnames", "Names", "names names", "names a",
            "name", "undo ", " undo", "undo undo", "undo a", "undo 1", "Undo", "x", "help", "machine", "machine ", "machine a",
            "machine a ", "machine  a " + HITS, " machine a " + HITS, "machine a\t" + HITS, "machine\ta " + HITS,
            "machine a " + HITS + "\n", "machine a machine 1\nevent 0 0 1 1\n", "Machine a " + HITS, "drop", "drop ",
            "drop  a", " drop a", "drop a ", "drop a a", "drop\ta", "drop a\t", "never", "never a", "never a up", "never a up ",
            "never a up 1/2 ", "never a up  1/2", "never a  up 1/2", "never  a up 1/2", " never a up 1/2", "never a 1/2 up",
            "never up a 1/2", "never a up 1/2 1/2", "never a up 1/2\n", "never a up\t1/2", "never a UP 1/2", "never a left 1/2",
            "never a up 2/4", "never a up 1/0", "never a up 1/1", "never a up 01", "never a up -0", "never a up +1", "never a up x",
            "never a up " + "1" * 41, "leap", "leap a", "leap a up", "leap a up 1/2 ", "leap a up 0/1", "leap a u 1/2",
            "leap a up 1/2 down", "measure", "measure a", "measure a ", "measure a up 1/2", "measure a 1/2 0", "measure a 3/6",
            "ends", "ends ", "ends a ", "ends a 1/2", "ends  a", "ends a a", "all", "all a", "all a up", "all a up 1/2",
            "all a up 1/2 2/3 3/4", "all a 1/2 2/3 up", "all a up 1/2  2/3", "all a up 2/4 2/3", "all a up 1/2 4/6",
            "between", "between a", "between a 0:0 2:1", "between a 0:0 2:1 ", "between a 0:0 2:1 2/4", "between a 0:0 1/2 2:1",
            "between a 0:0 2:1 1/2 1/2", "between a 0 2:1 1/2", "between a 0:0:0 2:1 1/2", "between a :0 2:1 1/2",
            "between a 0: 2:1 1/2", "between a : 2:1 1/2", "between a -1:0 2:1 1/2", "between a 0:0 -2:1 1/2",
            "between a 0:-0 2:1 1/2", "between a 0:00 2:1 1/2", "between a 00:0 2:1 1/2", "between a 0:+0 2:1 1/2",
            "between a 0:0 02:1 1/2", "between a 0:0 2:01 1/2", "between a 0:0 2:-01 1/2", "between a 0:0 2:1/1 1/2",
            "between a 0:0 +2:1 1/2", "between a 0:0 2,1 1/2", "between a 0:0 " + "1" * 41 + ":1 1/2",
            "between a 0:0 1:" + "1" * 41 + " 1/2", "between a 0:0 1:-" + "1" * 41 + " 1/2", "x" * 20000, " " * 20000,
            "names|", "all up 1/2 2/3", "between 0:0 2:1 1/2",
        ):
            self.bad(desk, line, NoLine)
        self.check_names(desk, ["a"], 1)

    def test_names(self):
        desk = Desk()
        for name in ("", "A", "aA", "abcdefghi", "a1", "1", "a-b", "a_b", "a|", "a.", "a\t", "'a'", "-", "a:b", "abcdefgh "):
            for line in (
                f"machine {name} {HITS}", f"drop {name}", f"never {name} up 1/2", f"leap {name} up 1/2", f"measure {name} 1/2",
                f"ends {name}", f"all {name} up 1/2 2/3", f"between {name} 0:0 1:1 1/2",
            ):
                if name == "abcdefgh " and line.startswith("machine"):
                    self.bad(desk, line, BadText, "line", 1)
                else:
                    self.bad(desk, line, NoLine)
        self.check_names(desk, [], 0)
        for name in ("a", "z", "abcdefgh", "zzzzzzzz", "up", "names", "machine", "none", "undo"):
            self.assertEqual(desk.tell(f"machine {name} {HITS}"), "ok")
            self.assertEqual(desk.tell(f"never {name} up 1/2"), "yes")
        self.assertEqual(desk.tell("names"), "a abcdefgh machine names none undo up z zzzzzzzz")

    def test_bad_text_and_machine(self):
        desk = desk_with(a=H)
        for text, line in (
            (" ", 1), (" " + HITS, 1), (HITS + " ", 4), ("|", 1), ("machine 1", 1), ("machine 1||", 2), ("machine 1|event 0 0 1 1", 2),
            ("machine 01|", 1), ("machine 1|event 0 0 1 -0|", 2), ("machine 1|machine 1|", 2), ("x", 1), ("machine 1 |", 1),
            ("machine 1|event 0 0 1\t1|", 2), ("machine 1|event  0 0 1 1|", 2), ("machine 1|event 0 9 1 1|x|", 3), ("machine 0|x", 2),
            ("a machine 1|", 1), ("machine " + "1" * 41 + "|", 1),
        ):
            self.bad(desk, f"machine a {text}", BadText, "line", line)
            self.bad(desk, f"machine new {text}", BadText, "line", line)
        for text, part in (
            ("machine 0|", "standings"), ("machine 13|", "standings"), ("machine 1|" + "event 0 0 1 1|" * 31, "events"),
            ("machine 1|event 0 1 1 1|", 0), ("machine 1|event 0 0 1 1|event 0 0 41 1|", 1), ("machine 2|event 0 1 1 -401|", 0),
        ):
            self.bad(desk, f"machine a {text}", BadMachine, "part", part)
            self.bad(desk, f"machine new {text}", BadMachine, "part", part)
        self.assertEqual(desk.tell("ends a"), "0 1")
        self.check_names(desk, ["a"], 1)
        self.assertEqual(desk.tell("undo"), "ok")
        self.check_names(desk, [], 0)

    def test_no_name(self):
        desk = desk_with(a=H)
        for name in ("b", "aa", "abcdefgh"):
            for line in (
                f"drop {name}", f"never {name} up 1/2", f"leap {name} down 1/2", f"measure {name} 1/2", f"ends {name}",
                f"all {name} up 2/3 1/2", f"between {name} 0:5 1:1 1/2", f"between {name} 0:0 400:1 1/2",
            ):
                self.bad(desk, line, NoName, "name", name)
        # What is no line at all is none, whatever the name.
        for line in ("never b up 2/4", "all b up 1/2", "between b 0:0 1:1 x", "drop b b", "ends b 1"):
            self.bad(desk, line, NoLine)

    def test_what_the_functions_raise(self):
        desk = desk_with(a=H, e=EMPTY, g=Machine(1, ((0, 0, 40, 400), (0, 0, 39, -399), (0, 0, 1, 1))))
        for line, error in (
            ("all a up 2/3 1/2", NoStretch), ("all a up 0 1/2", NoStretch), ("all a down 1/2 1", NoStretch),
            ("all e up 1/2 2/3", NoStretch), ("between a 0:1 1:1 1/2", NoBoard), ("between a 1:1 1:1 1/2", NoBoard),
            ("between a 2:1 1:1 1/2", NoBoard), ("between a 0:-1 1:1 1/2", NoBoard), ("between a 0:0 0:0 1/2", NoBoard),
            ("between a 0:0 301:1 1/2", TooMany), ("between a 0:0 " + "9" * 40 + ":1 1/2", TooMany),
        ):
            self.bad(desk, line, error)
        self.bad(desk, "between a 0:0 301:1 1/2", TooMany, "most", 300)
        self.bad(desk, "all a up 1/1000 999/1000", TooMany, "most", 500)
        self.assertEqual(desk.tell("between a 0:0 300:1 1/2"), "open")
        self.check_names(desk, ["a", "e", "g"], 3)
        for left in ("a e", "a", "none"):
            self.assertEqual(desk.tell("undo"), "ok")
            self.assertEqual(desk.tell("names"), left)


if __name__ == "__main__":
    unittest.main()
