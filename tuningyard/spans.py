"""Spans written and read, and chains of a span."""

from tuningyard.errors import NoSpan, TooFar
from tuningyard.figures import parts_read
from tuningyard.rows import fraction_of, row_of, times, tone_of

MOST_FIGURES = 60


def span_text(span):
    """The span's fraction in lowest terms, as `5/4`."""
    fraction = fraction_of(span)
    # The least number that has more than MOST_FIGURES figures.
    if max(fraction) >= 10 ** 60:
        raise TooFar("the span has too many figures to be written")
    top = fraction[0]
    bottom = fraction[1]
    return f"{top}/{bottom}"


def span_read(text):
    """The span that a text as `5/4` stands for, in lowest terms or not."""
    parts = parts_read(text, MOST_FIGURES)
    if parts is None:
        raise NoSpan("a span is TOP/BOTTOM, two whole numbers from 1 on of at most 60 figures")
    return tone_of(row_of(parts[0], parts[1]))


def chain(start, span, count=7):
    """So many tones: the start, and each next one the one ahead multiplied by the span."""
    tones = []
    row = start
    for step in range(count):
        tones.append(tone_of(row))
        row = times(row, span)
    return tones
