"""Names of tones: a letter, signs, a point and an octave."""

from tuningyard.errors import NoName
from tuningyard.figures import is_signed
from tuningyard.rows import over, power, times, tone_of

LONGEST = 300
OCTAVE_FIGURES = 4
# By their power of 3, from -1 on: name_of counts in this order.
LETTERS = {
    "F": (2, -1, 0, 0, 0),
    "C": (0, 0, 0, 0, 0),
    "G": (-1, 1, 0, 0, 0),
    "D": (-3, 2, 0, 0, 0),
    "A": (-4, 3, 0, 0, 0),
    "E": (-6, 4, 0, 0, 0),
    "B": (-7, 5, 0, 0, 0),
}
# The sign that multiplies, the one that divides, and the row; in their order in a name. Each row ends with a prime of
# its own, 3, 5, 7 and 11, which the first one has seven times and the others once, above or below the line.
MARKS = (
    ("#", "b", (-11, 7, 0, 0, 0)),
    ("+", "-", (-4, 4, -1, 0, 0)),
    (">", "<", (6, -2, 0, -1, 0)),
    ("^", "v", (-5, 1, 0, 0, 1)),
)


def run_length(text, start, sign):
    """How many of the sign stand together in the text from the start on."""
    end = start
    while end < len(text) and text[end] == sign:
        end = end + 1
    return end - start


def count_read(text, start, mark):
    """How often a mark's sign stands from the start on, below 0 for the one that divides."""
    return run_length(text, start, mark[0]) - run_length(text, start, mark[1])


def count_text(mark, count):
    """The mark's sign so often, or where the count is below 0, the one that divides."""
    return mark[0] * count if count > 0 else mark[1] * -count


def octave_read(text):
    """The octave that stands behind the point of a name."""
    if not is_signed(text, OCTAVE_FIGURES):
        raise NoName("a name ends with a point and an octave")
    return int(text)


def named(text):
    """The tone that a name stands for."""
    if len(text) > LONGEST:
        raise NoName("a name has at most 300 signs")
    if text[:1] not in LETTERS:
        raise NoName("a name begins with a letter from A to G")
    row = LETTERS[text[0]]
    place = 1
    for mark in MARKS:
        count = count_read(text, place, mark)
        row = times(row, power(mark[2], count))
        place = place + abs(count)
    if text[place:place + 1] != ".":
        raise NoName("signs stand in their order, of one kind each, and a point behind them")
    return tone_of(times(row, (octave_read(text[place + 1:]), 0, 0, 0, 0)))


def name_of(tone):
    """The one name of a tone."""
    left = tone
    signs = ""
    for place in (4, 3, 2):
        mark = MARKS[place - 1]
        count = left[place] * mark[2][place]
        left = over(left, power(mark[2], count))
        signs = count_text(mark, count) + signs
    # The letters' powers of 3 are the seven from -1 to 5.
    sharps = (left[1] + 1) // 7
    left = over(left, power(MARKS[0][2], sharps))
    signs = count_text(MARKS[0], sharps) + signs
    letter = list(LETTERS)[left[1] + 1]
    octave = over(left, LETTERS[letter])[0]
    return f"{letter}{signs}.{octave}"
