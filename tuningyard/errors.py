"""The refusals of the program, a class for each kind."""


class YardError(ValueError):
    """Any refusal."""


class TooFar(YardError):
    """A row that is told as a tone is none, or a span is too long to be written."""


class NoSpan(YardError):
    """A fraction, or the text of one, is no row's number."""


class NoName(YardError):
    """A text is no name of a tone."""


class NoScale(YardError):
    """A text is no scale."""


class NoCommas(YardError):
    """A list of commas has too many of them."""


class NoKeys(YardError):
    """A list of keys has too many of them, or a ring that is none."""


class NoBoard(YardError):
    """A row or a key makes no board."""


class NoLength(YardError):
    """A text is no length."""


class NoTune(YardError):
    """A text is no tune as a whole."""


class BadBar(YardError):
    """A bar of a tune is wrong: the one with this number."""

    def __init__(self, bar):
        self.bar = bar


class BadNote(YardError):
    """A word of a tune is no note: the one at this place of the bar with this number."""

    def __init__(self, bar, place):
        self.bar = bar
        self.place = place


class NoStack(YardError):
    """A text is no stack."""


class NoChord(YardError):
    """Two lists of tones are no chords that can be led on."""


class NoLine(YardError):
    """A line told to a desk has none of its forms."""


class NoNote(YardError):
    """A word in the place of a name is none, or nothing stands by it."""
