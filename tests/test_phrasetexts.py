"""2.2: phrases as texts."""

import re
import unittest

from neverleapt.errors import BadText, NoPhrase
from neverleapt.phrases import is_phrase
from neverleapt.phrasetexts import phrase_text, read_phrase
from tests.phrasesamples import HIT, MISS, PHRASES, event, many_times, nested, random_phrases
from tests.samples import deep, odd_things

TEXTS = [
    (HIT, "event 1 1"),
    (event(40, -400), "event 40 -400"),
    (event(7, 0), "event 7 0"),
    (("row", (HIT,)), "row(event 1 1)"),
    (("row", (HIT, MISS, event(2, -3))), "row(event 1 1; event 1 0; event 2 -3)"),
    (("either", (HIT, MISS)), "either(event 1 1; event 1 0)"),
    (("again", HIT), "again(event 1 1)"),
    (("times", 1, HIT), "1 times(event 1 1)"),
    (("times", 20, ("row", (HIT, MISS))), "20 times(row(event 1 1; event 1 0))"),
    (("row", (("times", 3, HIT), ("again", ("either", (MISS, HIT))), ("times", 10, MISS))),
     "row(3 times(event 1 1); again(either(event 1 0; event 1 1)); 10 times(event 1 0))"),
]

NUMBER = re.compile(r"0|-?[1-9][0-9]{0,39}")


def parts_of(text):
    """A text cut at each `; ` that stands within no brackets."""
    parts = []
    depth = begin = 0
    for place, sign in enumerate(text):
        depth += {"(": 1, ")": -1}.get(sign, 0)
        if depth == 0 and text.startswith("; ", place):
            parts.append(text[begin:place])
            begin = place + 2
    return parts + [text[begin:]]


def phrase_of(text):
    """The phrase of a text, told by its words alone, or None; bounds are not looked at."""
    words = text.split(" ")
    if len(words) == 3 and words[0] == "event" and NUMBER.fullmatch(words[1]) and NUMBER.fullmatch(words[2]):
        return ("event", int(words[1]), int(words[2]))
    head, bracket, rest = text.partition("(")
    if not bracket or not rest.endswith(")"):
        return None
    inner = [phrase_of(part) for part in parts_of(rest[:-1])]
    if None in inner:
        return None
    if head in ("row", "either"):
        return (head, tuple(inner))
    if head == "again" and len(inner) == 1:
        return ("again", inner[0])
    many, blank, word = head.partition(" ")
    if blank and word == "times" and NUMBER.fullmatch(many) and len(inner) == 1:
        return ("times", int(many), inner[0])
    return None


class PhraseTexts(unittest.TestCase):

    def test_of_each_kind(self):
        for phrase, text in TEXTS:
            self.assertEqual(phrase_text(phrase), text)
            self.assertIs(type(phrase_text(phrase)), str)

    def test_no_phrase(self):
        wrong = [
            "event 1 1", 0, 1, (), deep(40), nested(13), ("row", (HIT,) * 60), ("times", 0, HIT), ("times", 21, HIT),
            ("row", ()), ["event", 1, 1], ("event", 1, True), ("event", 0, 1), ("event", 41, 1), ("event", 1, 401),
        ]
        for thing in odd_things() + wrong:
            with self.subTest(str(thing)[:40]):
                self.assertRaises(NoPhrase, phrase_text, thing)

    def test_greatest(self):
        for phrase in (nested(12), many_times(11), ("row", (event(40, -400),) * 59), ("either", (HIT,) * 59)):
            self.assertEqual(read_phrase(phrase_text(phrase)), phrase)
        self.assertEqual(phrase_text(nested(12)), "again(" * 11 + "event 1 1" + ")" * 11)
        self.assertEqual(phrase_text(many_times(11)), "20 times(" * 11 + "event 1 1" + ")" * 11)


class Read(unittest.TestCase):

    def check_bad(self, text, line=1):
        with self.assertRaises(BadText) as caught:
            read_phrase(text)
        self.assertEqual(caught.exception.line, line)
        self.assertIs(type(caught.exception.line), int)

    def same_kinds(self, one, other):
        self.assertIs(type(one), type(other))
        if isinstance(one, tuple):
            for part, other_part in zip(one, other):
                self.same_kinds(part, other_part)

    def test_read_back(self):
        for phrase in PHRASES + [phrase for phrase, _ in TEXTS] + random_phrases(51, 200):
            back = read_phrase(phrase_text(phrase))
            self.assertEqual(back, phrase)
            self.same_kinds(back, phrase)

    def test_texts(self):
        for phrase, text in TEXTS:
            self.assertEqual(read_phrase(text), phrase)

    def test_no_string(self):
        for thing in odd_things() + [0, 1, (), deep(40), HIT, ["event 1 1"], b"event 1 1", ("event 1 1",)]:
            if not isinstance(thing, str):
                with self.subTest(str(thing)[:40]):
                    self.check_bad(thing, 0)

    def test_numbers(self):
        for text in (
            "event 01 1", "event 1 01", "event 1 00", "event 1 -0", "event 1 -01", "event +1 1", "event 1 +1",
            "event -1 1", "event 0 1", "event 41 1", "event 1 401", "event 1 -401", "event 1 --1", "event 1 1-",
            "event 1 1-1", "event 1 -", "event - 1", "event 1 1.0", "event 1 1e1", "event 1_0 1", "event 1 0x1",
            "event one 1", "event True 1", "0 times(event 1 1)", "21 times(event 1 1)", "02 times(event 1 1)",
            "-1 times(event 1 1)", "+2 times(event 1 1)", "-0 times(event 1 1)", "times(event 1 1)",
            " times(event 1 1)", "- times(event 1 1)",
        ):
            self.check_bad(text)

    def test_numbers_of_many_figures(self):
        for figures in (2, 39, 40, 41, 42, 4299, 4300, 4301, 5000, 19000):
            for number in ("9" * figures, "0" * (figures - 1) + "1", "-" + "9" * figures, "-" * figures):
                self.check_bad(f"event {number} 1")
                self.check_bad(f"event 1 {number}9")
                self.check_bad(f"{number} times(event 1 1)")
                self.check_bad(f"row(event 1 1; {number} times(event 1 1))")
                self.check_bad(number)
                self.check_bad("event " + number)

    def test_blanks_and_line_feeds(self):
        for _, text in TEXTS:
            for spoiled in (" " + text, text + " ", text + "\n", "\n" + text, text + "\t", text + "\n\n", text + ")",
                            text.replace(" ", "  "), text.replace(" ", "\t"), text.replace(" ", "\n"), text + "; ",
                            text.replace(" ", ""), text + ";", text.upper(), text + text, text + "; " + text):
                self.check_bad(spoiled)
        for text in (
            "row(event 1 1;event 1 0)", "row(event 1 1 ; event 1 0)", "row(event 1 1;  event 1 0)", "row( event 1 1)",
            "row(event 1 1 )", "row (event 1 1)", "2times(event 1 1)", "2 times (event 1 1)", "2  times(event 1 1)",
            "row(event 1 1; )", "row(; event 1 1)", "row(event 1 1, event 1 0)", "row(event 1 1;\nevent 1 0)",
        ):
            self.check_bad(text)

    def test_words(self):
        for text in (
            "", " ", "\n", "event", "event ", "event 1", "event 1 ", "event 1 1 1", "events 1 1", "Event 1 1", "row",
            "row(", "row()", "row)", "either()", "again()", "2 times()", "(event 1 1)", "()", ")", "(", "1", "1 ",
            "2 time(event 1 1)", "2 timess(event 1 1)", "rows(event 1 1)", "none(event 1 1)", "row(1)", "row(row)",
            "again(event 1 1; event 1 0)", "2 times(event 1 1; event 1 0)", "times 2(event 1 1)", "row[event 1 1]",
            "2 timesXevent 1 1)", "2Xtimes(event 1 1)", "row(event 1 1;Xevent 1 0)", "again(event 1 1X", "row(event 1 1X",
            "eventX1 1", "event 1X1", "rowXevent 1 1)", "again(again(event 1 1X)", "2 row(event 1 1)", "2 event 1 1",
        ):
            self.check_bad(text)

    def test_brackets_lacking(self):
        for text in (
            "row(event 1 1", "again(event 1 1", "2 times(event 1 1", "again(again(event 1 1)", "event 1 1)",
            "row(event 1 1))", "row((event 1 1))", "rowevent 1 1)", "row(row(event 1 1; event 1 0); event 1 1",
        ):
            self.check_bad(text)

    def test_heaps_of_brackets(self):
        for head in ("again(", "row(", "either(", "2 times(", "("):
            many = 19000 // len(head)
            self.check_bad(head * many)
            self.check_bad(head * 2000 + "event 1 1" + ")" * 2000)
            self.check_bad(head * 12 + "event 1 1" + ")" * 12)
        self.check_bad(")" * 20000)
        self.check_bad("again(" * 11 + "event 1 1" + ")" * 8000)

    def test_too_deep(self):
        for head, phrase in (
            ("again(", nested(12)), ("20 times(", many_times(11)),
        ):
            self.assertEqual(read_phrase(head * 11 + "event 1 1" + ")" * 11), phrase)
            self.check_bad(head * 12 + "event 1 1" + ")" * 12)
        for head in ("row(", "either("):
            read_phrase(head * 11 + "event 1 1" + ")" * 11)
            self.check_bad(head * 12 + "event 1 1" + ")" * 12)

    def test_too_many(self):
        for many, right in ((59, True), (60, False), (1600, False)):
            for head in ("row", "either"):
                text = head + "(" + "; ".join(["event 1 1"] * many) + ")"
                if right:
                    self.assertEqual(read_phrase(text), (head, (HIT,) * many))
                else:
                    self.check_bad(text)

    def test_every_small_change(self):
        signs = ["", " ", "(", ")", ";", "; ", "0", "1", "-", "e", "x", "\n", "4", "again("]
        for _, text in TEXTS:
            for place in range(len(text) + 1):
                for sign in signs:
                    for spoiled in (text[:place] + sign + text[place:], text[:place] + sign + text[place + 1:]):
                        expected = phrase_of(spoiled)
                        if expected is not None and is_phrase(expected):
                            self.assertEqual(read_phrase(spoiled), expected)
                        else:
                            self.check_bad(spoiled)

    def test_beginnings_and_ends(self):
        text = TEXTS[-1][1]
        for place in range(len(text)):
            self.check_bad(text[:place])
            if phrase_of(text[place:]) is None:
                self.check_bad(text[place:])


if __name__ == "__main__":
    unittest.main()
