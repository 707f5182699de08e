"""A desk that keeps machines by name, and answers lines about them."""

from neverleapt.betweens import between
from neverleapt.errors import BadText, NoLine, NoName, NothingDone
from neverleapt.kinds import is_way
from neverleapt.leaping import leap
from neverleapt.numerals import number_text, read_number
from neverleapt.reading import read_machine, read_share
from neverleapt.rings import ends, measure
from neverleapt.stretches import all_never
from neverleapt.texts import share_text
from neverleapt.verdicts import never

LETTERS = "abcdefghijklmnopqrstuvwxyz"
LONGEST_NAME = 8


def _never(machine, way, share):
    return "yes" if never(machine, share, way) else "no"


def _leap(machine, way, share):
    run = leap(machine, share, way)
    return "none" if run is None else _in_row([number_text(event) for event in run])


def _measure(machine, share):
    return number_text(measure(machine, share, 0))


def _ends(machine):
    pair = ends(machine, 0)
    return "none" if pair is None else _in_row([share_text(share) for share in pair])


def _all(machine, way, low, high):
    return _in_row([share_text(share) for share in all_never(machine, low, high, way)])


def _between(machine, first, last, share):
    return between(machine, first, last, share)


def _in_row(words):
    return " ".join(words) if words else "none"


# For the first word of each line that asks something of a machine what stands behind the name, and what answers.
QUESTIONS = {
    "never": ("way", "share"),
    "leap": ("way", "share"),
    "measure": ("share",),
    "ends": (),
    "all": ("way", "share", "share"),
    "between": ("board", "board", "share"),
}
ANSWERS = {
    "never": _never,
    "leap": _leap,
    "measure": _measure,
    "ends": _ends,
    "all": _all,
    "between": _between,
}


class Desk:
    """Machines by their names, and what can be taken back."""

    def __init__(self):
        self._machines = {}
        # The names of the lines that can be taken back, each with the machine that it had ahead of the line, or None.
        self._done = []

    def tell(self, line):
        """Do one line, and return the answer."""
        if not isinstance(line, str) or "\n" in line:
            raise NoLine()
        word, _, rest = line.partition(" ")
        if word == "machine":
            return self._keep(rest)
        words = line.split(" ")
        if words == ["names"]:
            return _in_row(sorted(list(self._machines)))
        if words == ["undo"]:
            return self._undo()
        if len(words) < 2 or not _is_name(words[1]):
            raise NoLine()
        if word == "drop" and len(words) == 2:
            return self._drop(words[1])
        if word in QUESTIONS:
            return self._ask(words)
        raise NoLine()

    def undoable(self):
        """How many lines can be taken back."""
        return len(self._done)

    def _keep(self, rest):
        name, _, text = rest.partition(" ")
        if not _is_name(name) or not text:
            raise NoLine()
        self._change(name, read_machine(text.replace("|", "\n")))
        return "ok"

    def _drop(self, name):
        self._machine_of(name)
        self._change(name, None)
        return "ok"

    def _machine_of(self, name):
        if name not in self._machines:
            raise NoName(name)
        return self._machines[name]

    def _change(self, name, machine):
        self._done.append((name, self._machines.get(name)))
        self._put(name, machine)

    def _put(self, name, machine):
        """Keep a machine under a name, or none."""
        if machine is None:
            self._machines.pop(name, None)
        else:
            self._machines[name] = machine

    def _undo(self):
        if not self._done:
            raise NothingDone()
        name, machine = self._done.pop()
        self._put(name, machine)
        return "ok"

    def _ask(self, words):
        kinds = QUESTIONS[words[0]]
        if len(words) != len(kinds) + 2:
            raise NoLine()
        things = [_read(word, kind) for word, kind in zip(words[2:], kinds)]
        machine = self._machine_of(words[1])
        answer = ANSWERS[words[0]]
        return answer(machine, *things)


def _is_name(word):
    return 1 <= len(word) <= LONGEST_NAME and all([sign in LETTERS for sign in word])


def _read(word, kind):
    """What a word of a line tells."""
    if kind == "way":
        return _read_way(word)
    return _read_share(word) if kind == "share" else _read_board(word)


def _read_way(word):
    if not is_way(word):
        raise NoLine()
    return word


def _read_share(word):
    try:
        return read_share(word)
    except BadText:
        raise NoLine()


def _read_board(word):
    tries, _, points = word.partition(":")
    board = (read_number(tries, False), read_number(points, True))
    if None in board:
        raise NoLine()
    return board
