"""Lengths of notes, fractions in lowest terms: how they are written, and their sums."""

from tuningyard.errors import NoLength
from tuningyard.figures import lowest, parts_read

MOST_FIGURES = 4


def length_read(text):
    """The length that a text as `3/4` stands for, in lowest terms or not."""
    parts = parts_read(text, MOST_FIGURES)
    if parts is None:
        raise NoLength("a length is TOP/BOTTOM, two whole numbers from 1 on of at most four figures")
    return lowest(parts[0], parts[1])


def length_text(length):
    """The length written, as `3/4`."""
    top = length[0]
    bottom = length[1]
    return f"{top}/{bottom}"


def summed(lengths):
    """The sum of lengths, as a pair in lowest terms."""
    total = (0, 1)
    for length in lengths:
        total = lowest(total[0] * length[1] + length[0] * total[1], total[1] * length[1])
    return total
