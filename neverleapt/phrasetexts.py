"""Phrases as texts, and such texts read back."""

from neverleapt.errors import BadText, NoPhrase
from neverleapt.numerals import MOST_FIGURES
from neverleapt.phrases import DEEPEST, is_phrase, within


def phrase_text(phrase):
    """The text of a phrase."""
    if not is_phrase(phrase):
        raise NoPhrase()
    return _text(phrase)


def _text(phrase):
    if phrase[0] == "event":
        return f"event {phrase[1]} {phrase[2]}"
    inside = "; ".join([_text(inner) for inner in within(phrase)])
    if phrase[0] == "times":
        return f"{phrase[1]} times({inside})"
    return f"{phrase[0]}({inside})"


def read_phrase(text):
    """The phrase of a text."""
    if not isinstance(text, str):
        raise BadText(0)
    phrase, _ = _read(text, 0, 1)
    # Reading passes over single signs unseen and takes needless zeros: the text of what was read tells.
    if not is_phrase(phrase) or _text(phrase) != text:
        raise BadText(1)
    return phrase


def _read(text, at, depth):
    """The phrase whose text begins at a place, and the place behind it."""
    if depth > DEEPEST:
        raise BadText(1)
    if text.startswith("event ", at):
        tries, behind = _read_number(text, at + len("event "))
        points, behind = _read_number(text, behind + 1)
        return ("event", tries, points), behind
    if text.startswith("row(", at):
        phrases, behind = _read_phrases(text, at + len("row("), depth + 1)
        return ("row", phrases), behind
    if text.startswith("either(", at):
        phrases, behind = _read_phrases(text, at + len("either("), depth + 1)
        return ("either", phrases), behind
    if text.startswith("again(", at):
        phrase, behind = _read(text, at + len("again("), depth + 1)
        return ("again", phrase), behind + 1
    many, behind = _read_number(text, at)
    phrase, behind = _read(text, behind + len(" times("), depth + 1)
    return ("times", many, phrase), behind + 1


def _read_phrases(text, at, depth):
    """The phrases up to a closing bracket, and the place behind it."""
    phrases = []
    while True:
        phrase, at = _read(text, at, depth)
        phrases.append(phrase)
        if not text.startswith("; ", at):
            return tuple(phrases), at + 1
        at += len("; ")


def _read_number(text, at):
    """The integer that begins at a place, and the place behind it."""
    behind = at
    while behind < len(text) and text[behind] in "-0123456789":
        behind += 1
    figures = text[at + 1:behind] if text.startswith("-", at) else text[at:behind]
    # Python refuses numbers of thousands of figures by an error of its own.
    if not figures or len(figures) > MOST_FIGURES or "-" in figures:
        raise BadText(1)
    return int(text[at:behind]), behind
