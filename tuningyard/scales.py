"""Scales: folded tones from low to high; their gaps, moving them, and how they are written."""

from tuningyard.errors import NoScale, TooFar
from tuningyard.names import name_of, named
from tuningyard.rows import ONE, over, times, tone_of
from tuningyard.sizes import folded, rising
from tuningyard.spans import chain

OCTAVE = (1, 0, 0, 0, 0)
FARTHEST = 30
MOST_WORDS = 60


def scale_tone(tone):
    """The tone folded, where its powers of 3, 5, 7 and 11 are those of a scale."""
    if max([abs(number) for number in tone[1:]]) > FARTHEST:
        raise TooFar("a scale's powers of 3, 5, 7 and 11 are from -30 to 30")
    return folded(tone)


def scale_of(tones):
    """The scale of a list of tones."""
    found = {}
    for tone in tones:
        found[scale_tone(tone)] = True
    return rising(list(found))


def loop(span, count=7):
    """The scale of the chain of so many tones that starts with ONE."""
    return scale_of(chain(ONE, span, count))


def scale_moved(scale, span):
    """The scale of the tones multiplied by the span."""
    return scale_of([tone_of(times(tone, span)) for tone in scale])


def gaps(scale):
    """The spans from each tone to the next one, and from the last to the octave above the first."""
    above = scale[1:] + [times(tone, OCTAVE) for tone in scale[:1]]
    return [over(high, low) for high, low in zip(above, scale)]


def scale_text(scale):
    """The names of the scale's tones, parted by one blank each."""
    return " ".join([name_of(tone) for tone in scale])


def scale_read(text):
    """The scale of the tones whose names a text holds."""
    if text == "":
        return []
    words = text.split(" ")
    if len(words) > MOST_WORDS:
        raise NoScale("a scale is read from at most 60 words")
    return scale_of([named(word) for word in words])
