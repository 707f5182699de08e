"""Things that several tests share: odd objects, machines, and slow ways of working things out."""

import random
from fractions import Fraction

from neverleapt.desk import Desk
from neverleapt.errors import BadMachine, LeapError, NoRun
from neverleapt.live import Board
from neverleapt.lots import every
from neverleapt.machines import Machine

H = Machine(1, ((0, 0, 1, 1), (0, 0, 1, 0)))
S = Machine(1, tuple((0, 0, 1, points) for points in range(1, 6)))
T = Machine(2, ((0, 1, 1, 1), (0, 1, 1, 0), (1, 0, 1, 1), (1, 0, 1, 0)))
# 0 leads to the knot (1, 2), that one to the knots (3,) with a ring and (4,) without; nothing leads to 5.
KNOTTED = Machine(6, (
    (0, 1, 2, 5), (1, 2, 3, 4), (2, 1, 1, -7), (2, 1, 5, 20), (2, 3, 1, 1),
    (3, 3, 4, -6), (3, 3, 6, -9), (1, 4, 7, 7), (5, 5, 1, 1), (5, 0, 1, 1),
))
EMPTY = Machine(3, ())


def deep(depth, lists=False):
    """A tuple or list within others, so many of them."""
    thing = 0
    for _ in range(depth):
        thing = [thing] if lists else (thing,)
    return thing


def odd_things():
    """Things that are no integer, no share, no run, no machine's part, no phrase and no string of one."""
    return [
        None, True, False, b"", b"0", b"event", bytearray(b"01"), memoryview(b"01"),
        [], [0], [0, 1], (None,), (True, 1), (1, True), (0, 1, 1, None), ((), ()), ("0", "1"),
        {}, {0: 0}, {0: 1}.keys(), {0: 1}.values(), {0: 1}.items(), range(0), range(2), slice(0, 1),
        iter(()), (number for number in (0, 1)), enumerate([]), zip([], []), object(), int, tuple, len, deep,
        lambda: 0, NotImplemented, ..., ValueError("x"), Machine(1, ()), Machine, NoRun(), NoRun,
        BadMachine(0), LeapError(), deep(40), deep(40, True), tuple([None] * 9999), [0] * 9999,
        {"event": (1, 1)}, ["event", 1, 1], random, "x" * 50, [every(1, 0)], Board(Machine(1, ())), Board, Desk(),
    ]


NO_SHARES = [
    (0, 2), (2, 2), (2, 4), (-2, 4), (6, 3), (1, 0), (0, 0), (1, -1), (0, -1), (-1, -2), (3, -5), (10 ** 29, 10 ** 28),
    [1, 2], (1,), (1, 2, 3), (True, 1), (1, True), (False, 1), (None, 1), (1, None), ("1", "2"), ((1, 2),), ((1,), 2),
    1, 0, "1/2", "", (), deep(40), Fraction(1, 2),
]
NO_WAYS = ["", "Up", "UP", "up ", " down", "down\n", "left", "updown", 0, 1, ("up",), ["down"], b"up", ("up", "down"), deep(40)]
# In knots, one behind another, with rings below 0 and above; in some of them rings of one kind alone.
LINKED = Machine(4, (
    (0, 0, 1, 1), (0, 0, 2, -1), (0, 1, 1, 0), (1, 2, 1, 3), (2, 1, 2, -3), (2, 3, 1, -2), (3, 3, 1, 1), (3, 3, 2, 3),
))


def random_machines(seed, many, most_standings=5, most_events=9, most_tries=4, most_points=6):
    """So many machines, always the same ones for the same seed."""
    source = random.Random(seed)
    found = []
    for _ in range(many):
        standings = source.randint(1, most_standings)
        found.append(Machine(standings, tuple(
            (
                source.randrange(standings), source.randrange(standings),
                source.randint(1, most_tries), source.randint(-most_points, most_points),
            )
            for _ in range(source.randint(0, most_events))
        )))
    return found


def knotted_machines(seed, many):
    """So many machines of two or three knots of two or three standings each, one behind another, of all kinds of rings.

    The rings of a knot all have the lift 0 over the share 0, or all rise, or all sink, or are mixed.
    """
    source = random.Random(seed)
    found = []
    for _ in range(many):
        events, first = [], 0
        for place in range(source.randint(2, 3)):
            size = source.randint(2, 3)
            heights = [source.randint(-5, 5) for _ in range(size)]
            rises = source.choice([(0,), (0, 1, 2), (2, 3), (0, -1, -3), (-2, -3), (-2, 2), (-1, 0, 3)])
            steps = [(k, (k + 1) % size) for k in range(size)]
            steps += [(source.randrange(size), source.randrange(size)) for _ in range(source.randint(0, 2))]
            for one, other in steps:
                lift = heights[other] - heights[one] + source.choice(rises)
                events.append((first + one, first + other, source.randint(1, 3), lift))
            if place:
                for _ in range(source.randint(1, 2)):
                    events.append((
                        source.randrange(first - last, first), first + source.randrange(size), 1, source.randint(-6, 6)))
            first += size
            last = size
        found.append(Machine(first, tuple(events)))
    return found


def runs_of(machine, most):
    """All runs of at most so many events, found one by one."""
    found = [()]
    newest = [((), 0)]
    for _ in range(most):
        newest = [
            (run + (number,), event[1])
            for run, standing in newest
            for number, event in enumerate(machine.events)
            if event[0] == standing
        ]
        found.extend(run for run, _ in newest)
    return found


def led_to(machine, start):
    """The set of standings to which events lead from one, itself with them."""
    found = {start}
    for _ in range(machine.standings):
        found |= {event[1] for event in machine.events if event[0] in found}
    return found


def knot_with(machine, standing):
    """The set of standings of the knot of one."""
    return {other for other in led_to(machine, standing) if standing in led_to(machine, other)}


def simple_rows(machine, start, goal):
    """All rows of events, one or more, from one standing to another that come to none twice ahead of their end."""
    found = []
    waiting = [((), start, {start})]
    while waiting:
        row, here, been = waiting.pop()
        for number, event in enumerate(machine.events):
            if event[0] != here:
                continue
            if event[1] == goal:
                found.append(row + (number,))
            elif event[1] not in been:
                waiting.append((row + (number,), event[1], been | {event[1]}))
    return found


def simple_rings(machine, standing):
    """All rings of the knot of a standing that come to none twice; each other ring is put together of these."""
    return [ring for one in sorted(knot_with(machine, standing)) for ring in simple_rows(machine, one, one)]


def total_of(machine, row):
    """All tries and all points of a row of events."""
    return (
        sum(machine.events[number][2] for number in row),
        sum(machine.events[number][3] for number in row),
    )
