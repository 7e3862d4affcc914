"""Tunes moved, heard and respelled."""

from tuningyard.rows import times, tone_of


def note_changed(note, change):
    """The note with another thing in its tone's place; a rest stays."""
    return (None if note[0] is None else change(note[0]), note[1])


def bar_changed(bar, change):
    """The bar with its notes changed."""
    return [note_changed(note, change) for note in bar]


def changed(tune, change):
    """The tune with each tone put as what the change tells for it; rests and lengths stay."""
    return (tune[0], [bar_changed(bar, change) for bar in tune[1]])


def moved(tune, span):
    """The tune with its tones multiplied by the span."""
    return changed(tune, lambda tone: tone_of(times(tone, span)))


def mover(span):
    """A function that tells the tune moved by the span, of each tune that it is given."""
    return lambda tune: moved(tune, span)


def sounds(tuning, tune):
    """The tune with the tuning's sounds in the place of its tones."""
    return changed(tune, lambda tone: tuning.sound(tone))


def heard_alike(tuning, one, other):
    """Whether the sounds of two tunes are equal."""
    return sounds(tuning, one) == sounds(tuning, other)


def respelled(tuning, tune):
    """The tune with each tone put as its rest by the commas of the tuning."""
    return changed(tune, lambda tone: tone_of(tuning.sound(tone)))
