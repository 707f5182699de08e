"""Phrases for several tests, and a slow way to all that they tell."""

import random


def event(tries=1, points=0):
    return ("event", tries, points)


HIT = event(1, 1)
MISS = event(1, 0)


def nested(depth, inner=HIT):
    """A phrase so deep."""
    phrase = inner
    for _ in range(depth - 1):
        phrase = ("again", phrase)
    return phrase


def many_times(depth, many=20, inner=HIT):
    """Times within times, so many."""
    phrase = inner
    for _ in range(depth):
        phrase = ("times", many, phrase)
    return phrase


# One of each kind, and some of several.
PHRASES = [
    HIT,
    event(40, -400),
    ("row", (HIT,)),
    ("row", (HIT, MISS, event(2, 3))),
    ("either", (HIT,)),
    ("either", (HIT, MISS, event(2, 3), HIT)),
    ("again", HIT),
    ("times", 1, HIT),
    ("times", 3, HIT),
    ("times", 20, HIT),
    ("again", ("again", HIT)),
    ("again", ("again", ("row", (HIT, MISS)))),
    ("again", ("either", (HIT, MISS))),
    ("times", 3, ("either", (HIT, ("row", (MISS, HIT))))),
    ("either", (HIT, ("row", (HIT, HIT, MISS)))),
    ("row", (("again", HIT), MISS)),
    ("row", (HIT, ("again", MISS), ("again", HIT))),
    ("row", (("again", HIT), ("again", MISS))),
    ("row", (("again", HIT), ("again", MISS), ("either", (MISS, ("again", event(2, 3)))), HIT)),
    ("times", 2, ("row", (("again", HIT), MISS))),
    ("times", 2, ("again", ("row", (HIT, MISS)))),
    ("times", 2, ("row", (HIT, ("times", 2, ("row", (MISS, ("again", HIT))))))),
    ("again", ("row", (("again", HIT), ("either", (MISS, ("times", 2, event(2, 3))))))),
    ("either", (("times", 3, HIT), ("row", (HIT, ("again", MISS))), ("again", event(2, 3)))),
    ("times", 4, ("either", (("again", MISS), ("row", (HIT, HIT))))),
    ("row", (("times", 2, ("either", (HIT, MISS))), ("again", ("times", 2, MISS)))),
]


def random_phrases(seed, many):
    """So many phrases, always the same ones for the same seed."""
    source = random.Random(seed)
    return [random_phrase(source, 4) for _ in range(many)]


def random_phrase(source, depth):
    kind = source.choice(["event", "row", "either", "again", "times"]) if depth > 1 else "event"
    if kind == "event":
        return source.choice([HIT, MISS, event(2, 3)])
    if kind == "again":
        return ("again", random_phrase(source, depth - 1))
    if kind == "times":
        return ("times", source.randint(1, 3), random_phrase(source, depth - 1))
    return (kind, tuple(random_phrase(source, depth - 1) for _ in range(source.randint(1, 3))))


def told_rows(phrase, most):
    """The rows that a phrase tells, each cut off behind so many pairs."""
    kind = phrase[0]
    if kind == "event":
        return {(phrase[1:],)[:most]}
    if kind == "either":
        return {row for inner in phrase[1] for row in told_rows(inner, most)}
    if kind == "row":
        return one_behind_another([told_rows(inner, most) for inner in phrase[1]], most)
    if kind == "times":
        return one_behind_another([told_rows(phrase[2], most)] * phrase[1], most)
    inner = told_rows(phrase[1], most)
    found = {()}
    while True:
        further = found | one_behind_another([found, inner], most)
        if further == found:
            return found
        found = further


def one_behind_another(lots, most):
    rows = {()}
    for lot in lots:
        rows = {(one + other)[:most] for one in rows for other in lot}
    return rows


def beginnings(phrase, most):
    """The rows of at most so many pairs with which rows that a phrase tells begin."""
    return {row[:length] for row in told_rows(phrase, most) for length in range(len(row) + 1)}


def events_in(phrase):
    """How many events stand in a phrase, each counted as often as times tells."""
    if phrase[0] == "event":
        return 1
    if phrase[0] == "times":
        return phrase[1] * events_in(phrase[2])
    if phrase[0] == "again":
        return events_in(phrase[1])
    return sum(events_in(inner) for inner in phrase[1])
