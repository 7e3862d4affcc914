"""How high tones lie: measure and order, octaves and folding."""

from tuningyard.rows import BOUNDS, fraction_of, number_of, over


def measure(tone):
    """The tone's number times the 700th power of 2 and the 60th power of 1155."""
    fraction = fraction_of(tone)
    # 1155 is 3 * 5 * 7 * 11, so the bounds of a tone are the row of this factor, which each tone's bottom divides.
    return fraction[0] * number_of(BOUNDS) // fraction[1]


def compare(one, other):
    """-1, 0 or 1, where the first tone is lower than the second, the same, higher."""
    fraction = fraction_of(over(one, other))
    if fraction[0] < fraction[1]:
        return -1
    if fraction[0] > fraction[1]:
        return 1
    return 0


def rising(tones):
    """A new list of the tones from low to high, equal ones kept."""
    return sorted(tones, key=measure)


def octaves(tone):
    """The whole number n for which the tone lies from the nth power of 2 on and below the next one."""
    fraction = fraction_of(tone)
    # Raised by so many octaves the tone is above 1, and then the bits of its whole part tell the power of 2.
    shift = fraction[1].bit_length()
    whole = (fraction[0] << shift) // fraction[1]
    return whole.bit_length() - 1 - shift


def folded(tone):
    """The tone divided by its octaves: from 1 on and below 2."""
    return over(tone, (octaves(tone), 0, 0, 0, 0))
