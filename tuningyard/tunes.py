"""Tunes written and read: a meter, and bars of notes and rests."""

from tuningyard.errors import BadBar, BadNote, NoLength, NoName, NoTune, TooFar
from tuningyard.lengths import length_read, length_text, summed
from tuningyard.names import name_of, named

REST = "R"
METER_END = ": "
BAR_LINE = " | "
MOST_BARS = 40
MOST_NOTES = 24


def sounding_read(text):
    """What stands ahead of a note's length: its tone, or None for a rest."""
    return None if text == REST else named(text)


def note_read(word, number, place):
    """The note of a word, the one at this place of the bar with this number."""
    # Without `=` nothing stands in the length's place, which is no length.
    parts = word.partition("=")
    try:
        return (sounding_read(parts[0]), length_read(parts[2]))
    except (NoName, TooFar, NoLength):
        raise BadNote(number, place) from None


def bar_read(text, number, meter):
    """The notes of a bar, the one with this number, which come to the meter."""
    words = text.split(" ")
    if len(words) > MOST_NOTES:
        raise BadBar(number)
    notes = [note_read(word, number, place) for place, word in enumerate(words)]
    if summed([note[1] for note in notes]) != meter:
        raise BadBar(number)
    return notes


def meter_read(text):
    """The meter of a tune."""
    try:
        return length_read(text)
    except NoLength:
        raise NoTune("the meter is no length") from None


def tune_read(text):
    """The tune that a text as `3/4: C.0=1/2 E-.0=1/4 | R=3/4` stands for."""
    parts = text.partition(METER_END)
    if parts[1] == "":
        raise NoTune("a tune has a colon and a blank behind its meter")
    meter = meter_read(parts[0])
    texts = parts[2].split(BAR_LINE)
    if len(texts) > MOST_BARS:
        raise NoTune("a tune has at most 40 bars")
    return (meter, [bar_read(bar, number, meter) for number, bar in enumerate(texts)])


def note_text(note):
    """A note or a rest written, as `E-.0=1/4` or `R=1/4`."""
    name = REST if note[0] is None else name_of(note[0])
    length = length_text(note[1])
    return f"{name}={length}"


def bar_text(bar):
    """A bar written: its notes, parted by one blank each."""
    return " ".join([note_text(note) for note in bar])


def tune_text(tune):
    """The tune written."""
    bars = BAR_LINE.join([bar_text(bar) for bar in tune[1]])
    return length_text(tune[0]) + METER_END + bars
