"""Phrases: what they are, what rows they tell, and machines whose runs speak them."""

from neverleapt.errors import NoPhrase, TooMany
from neverleapt.kinds import is_between, is_pair
from neverleapt.machines import are_counts, made

DEEPEST = 12
MOST_PHRASES = 60
MOST_TIMES = 20
MOST_SPOKEN = 60


def is_phrase(thing):
    """Whether a thing is a phrase."""
    waiting = [(thing, 1)]
    many = 0
    while waiting:
        part, depth = waiting.pop()
        many += 1
        if many > MOST_PHRASES or depth > DEEPEST or not _has_form(part):
            return False
        waiting.extend([(inner, depth + 1) for inner in within(part)])
    return True


def _has_form(thing):
    """Whether a thing is a phrase, but for what stands in the places of phrases within it."""
    if not isinstance(thing, tuple) or len(thing) < 2 or not isinstance(thing[0], str):
        return False
    kind = thing[0]
    if kind == "event":
        return len(thing) == 3 and are_counts(thing[1], thing[2])
    if kind == "times":
        return len(thing) == 3 and is_between(thing[1], 1, MOST_TIMES)
    if kind == "row" or kind == "either":
        return len(thing) == 2 and isinstance(thing[1], tuple) and len(thing[1]) > 0
    return kind == "again" and len(thing) == 2


def within(phrase):
    """The tuple of the phrases that stand straight within a phrase."""
    if phrase[0] == "event":
        return ()
    if phrase[0] == "row" or phrase[0] == "either":
        return phrase[1]
    return (phrase[-1],)


def is_told(phrase, thing):
    """Whether a thing is a tuple of pairs with which some row that the phrase tells begins."""
    if not is_phrase(phrase):
        raise NoPhrase()
    if not isinstance(thing, tuple) or not all([is_pair(pair) for pair in thing]):
        return False
    spots = {}
    for place, pair in enumerate(thing):
        spots[pair] = spots.get(pair, 0) | 1 << place
    end = 1 << len(thing)
    return _behind(phrase, 1, spots, end) & end > 0


def _behind(phrase, places, spots, end):
    """The places of a row to which a phrase can lead from some of its places.

    Places are bits of a number, spots those at which each pair stands.
    """
    # At the end the row is told, whatever comes behind it: each phrase can be told to its end.
    if not places or places & end:
        return places
    kind = phrase[0]
    if kind == "event":
        return (places & spots.get((phrase[1], phrase[2]), 0)) << 1
    if kind == "row":
        for inner in phrase[1]:
            places = _behind(inner, places, spots, end)
        return places
    if kind == "either":
        found = 0
        for inner in phrase[1]:
            found |= _behind(inner, places, spots, end)
        return found
    if kind == "again":
        return _behind_again(phrase[1], places, spots, end)
    return _behind_times(phrase[1], phrase[2], places, spots, end)


def _behind_again(phrase, places, spots, end):
    found = places
    new = places
    while new:
        new = _behind(phrase, new, spots, end) & ~found
        found |= new
    return found


def _behind_times(many, phrase, places, spots, end):
    for _ in range(many):
        further = _behind(phrase, places, spots, end)
        # What stays the same once stays so, and times within times can be far too many to do all.
        if further == places:
            break
        places = further
    return places


def spoken(phrase):
    """A machine whose runs have just the rows with which rows that the phrase tells begin."""
    if not is_phrase(phrase):
        raise NoPhrase()
    if _many_events(phrase) > MOST_SPOKEN:
        raise TooMany(MOST_SPOKEN)
    # Standing 0 is the begin; each event of the phrase, as often as times tells, has one more.
    pairs = [()]
    follow = [{}]
    _link([0], _settle(phrase, pairs, follow)[0], follow)
    return _merged(pairs, follow)


def _many_events(phrase):
    """How many events stand in a phrase, each counted as often as times tells."""
    if phrase[0] == "event":
        return 1
    many = sum([_many_events(inner) for inner in within(phrase)])
    if phrase[0] == "times":
        return phrase[1] * many
    return many


def _settle(phrase, pairs, follow):
    """Give standings to the events of a phrase.

    Told are those with which it can begin, those with which it can end, and whether it can be left out.
    """
    kind = phrase[0]
    if kind == "event":
        pairs.append((phrase[1], phrase[2]))
        follow.append({})
        return [len(pairs) - 1], [len(pairs) - 1], False
    if kind == "row":
        return _settle_row(phrase[1], pairs, follow)
    if kind == "either":
        return _settle_either(phrase[1], pairs, follow)
    if kind == "times":
        return _settle_row([phrase[2]] * phrase[1], pairs, follow)
    firsts, lasts, _ = _settle(phrase[1], pairs, follow)
    _link(lasts, firsts, follow)
    return firsts, lasts, True


def _settle_row(phrases, pairs, follow):
    firsts, lasts, empty = [], [], True
    for phrase in phrases:
        begins, closes, skipped = _settle(phrase, pairs, follow)
        _link(lasts, begins, follow)
        if empty:
            firsts = firsts + begins
        lasts = lasts + closes if skipped else closes
        empty = empty and skipped
    return firsts, lasts, empty


def _settle_either(phrases, pairs, follow):
    firsts, lasts, empty = [], [], False
    for phrase in phrases:
        begins, closes, skipped = _settle(phrase, pairs, follow)
        firsts = firsts + begins
        lasts = lasts + closes
        empty = empty or skipped
    return firsts, lasts, empty


def _link(lasts, firsts, follow):
    for last in lasts:
        for first in firsts:
            follow[last][first] = True


def _merged(pairs, follow):
    """The machine of these standings, those behind which the same can come made one."""
    groups = [0] * len(follow)
    many = 1
    while True:
        numbers = {}
        finer = []
        for ways in follow:
            told = tuple(sorted({(pairs[place], groups[place]) for place in ways}))
            finer.append(numbers.setdefault(told, len(numbers)))
        groups = finer
        if len(numbers) == many:
            return made(many, _events(pairs, follow, groups))
        many = len(numbers)


def _events(pairs, follow, groups):
    return tuple(sorted({
        (groups[place], groups[after], pairs[after][0], pairs[after][1])
        for place, ways in enumerate(follow)
        for after in ways
    }))
