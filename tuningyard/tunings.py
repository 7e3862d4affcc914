"""Tunings: what rows are heard as, and when two tunings are the same."""

from tuningyard.errors import NoBoard
from tuningyard.keys import checked_keys, lost, values
from tuningyard.rows import ONE
from tuningyard.tables import left_by, table


class Tuning:
    """The plain tuning, which hears each row as itself."""

    def sound(self, row):
        """What the row is heard as."""
        return row

    def alike(self, one, other):
        """Whether two rows are heard as the same."""
        return self.sound(one) == self.sound(other)

    def table_of(self):
        """The table by steps of the rows that are alike with ONE."""
        return []


class CommaTuning(Tuning):
    """A tuning told by commas, which hears each row as its rest."""

    def __init__(self, commas):
        # The table makes the same rows as the commas and leaves the same rests, so the commas need not be kept.
        self.steps = table(commas)

    def sound(self, row):
        """The row's rest by the commas."""
        return left_by(self.steps, row)

    def table_of(self):
        """The table of the commas."""
        return list(self.steps)


class KeyTuning(Tuning):
    """A tuning told by keys, which hears each row as the tuple of its values."""

    def __init__(self, keys):
        self.own_keys = list(checked_keys(keys))

    def sound(self, row):
        """The row's values by the keys."""
        return values(self.own_keys, row)

    def table_of(self):
        """The lost table of the keys."""
        return lost(self.own_keys)


class Board(KeyTuning):
    """A tuning told by one key with ring 0, which hears each row as one whole number."""

    def __init__(self, row):
        if row[0] < 1:
            raise NoBoard("the first number of a board's row is from 1 on")
        KeyTuning.__init__(self, [(row, 0)])
        self.octave = row[0]

    def sound(self, row):
        """The row's value by the key."""
        return values(self.own_keys, row)[0]


def same_tuning(one, other):
    """Whether each two rows are alike in both tunings or in none."""
    return one.table_of() == other.table_of()


def told_by_first(one, other):
    """A row that is alike with ONE in the first tuning but not in the second, or None."""
    for row in one.table_of():
        if not other.alike(row, ONE):
            return row
    return None


def apart(one, other):
    """A row that is alike with ONE in just one of both tunings, or None where they are the same."""
    row = told_by_first(one, other)
    return told_by_first(other, one) if row is None else row
