"""Rows of bits in one integer, a bit for each place from 0 on, and rests that come again and again in them."""


def bits_of(places, many):
    """The row in which just the bits at these places are set, all below many."""
    signs = ["0"] * many
    for place in places:
        signs[many - 1 - place] = "1"
    return int("0" + "".join(signs), 2)


def places_of(row):
    """The ascending list of the places of all bits that are set."""
    signs = f"{row:b}"
    return [place for place, sign in enumerate(signs[::-1]) if sign == "1"]


def lowest(row):
    """The place of the first bit that is set, some being so."""
    return (row & -row).bit_length() - 1


def highest(row):
    """The place of the last bit that is set, some being so."""
    return row.bit_length() - 1


def cut(row, many):
    """The row with its first so many bits alone."""
    return row & ((1 << many) - 1)


def striped(rests, step, start, many):
    """So many bits, for the integers from start on, each set if the bit of its rest by step is."""
    turn = start % step
    row = (rests >> turn) | (cut(rests, turn) << (step - turn))
    length = step
    while length < many:
        row |= row << length
        length *= 2
    return cut(row, many)


def least_step(rests, step):
    """The least step by which the same comes again and again."""
    for shorter in range(1, step):
        if step % shorter == 0 and striped(cut(rests, shorter), shorter, 0, step) == rests:
            return shorter
    return step
