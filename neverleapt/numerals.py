"""Integers as decimal figures, and such words read back."""

MOST_FIGURES = 40
FIGURES = 18
CHUNK = 1000000000000000000


def number_text(number):
    """The figures of an integer, with a sign ahead if it is below 0."""
    # Python refuses to write numbers of thousands of figures at once.
    parts = []
    left = abs(number)
    while left >= CHUNK:
        left, rest = divmod(left, CHUNK)
        parts.append(str(rest).zfill(FIGURES))
    parts.append(str(left))
    if number < 0:
        parts.append("-")
    return "".join(reversed(parts))


def read_number(word, signed):
    """The integer that a word tells, None if it tells none; only if signed it may be one below 0."""
    figures = word[1:] if signed and word.startswith("-") else word
    if not 1 <= len(figures) <= MOST_FIGURES or not all([sign in "0123456789" for sign in figures]):
        return None
    # A sign ahead of 0 is one too many.
    if figures[0] == "0" and word != "0":
        return None
    return int(word)
