"""Commas told as keys, and commas and keys held against each other."""

from tuningyard.keys import checked_keys, lost, values
from tuningyard.papers import keys_by_place, paper
from tuningyard.tables import checked_commas, table


def keys_for(commas):
    """Keys to which just those rows are lost that are made by the commas."""
    steps = table(commas)
    # A value stays the same where the row and the key's row change places: so these are the rows that hear no comma.
    deaf = lost([(step, 0) for step in steps])
    return [(row, 0) for row in deaf] + [key for key in keys_by_place(steps) if key[1] != 0]


def first_heard(commas, keys):
    """The number of the first comma that is not lost to the keys, or None where all are."""
    for place, comma in enumerate(commas):
        if any([number != 0 for number in values(keys, comma)]):
            return place
    return None


def held(commas, keys):
    """("comma", number), ("same", lists of powers) or ("span", row, key)."""
    checked_commas(commas)
    checked_keys(keys)
    number = first_heard(commas, keys)
    if number is not None:
        return ("comma", number)
    shown = []
    for row in lost(keys):
        found = paper(commas, row)
        if found[0] == "told":
            return ("span", row, found[1])
        shown.append(found[1])
    return ("same", shown)
