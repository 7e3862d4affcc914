"""Keys: the values of a row by them, and the rows that are lost to them."""

from tuningyard.errors import NoKeys
from tuningyard.papers import value
from tuningyard.rows import ONE
from tuningyard.tables import WIDTH, stepped, unit

MOST_KEYS = 6


def checked_keys(keys):
    """The keys themselves, where they are not too many and each ring is one."""
    if len(keys) > MOST_KEYS:
        raise NoKeys("keys are at most six")
    for key in keys:
        if key[1] < 0 or key[1] == 1:
            raise NoKeys("a ring is 0 or a whole number from 2 on")
    return keys


def values(keys, row):
    """The values of a row, one by each key."""
    return tuple([value(key, row) for key in checked_keys(keys)])


def lost_among(rows, key):
    """The table by steps of those rows, of all that these make, which are lost to the key."""
    # The ring is the value of ONE, too: so what has the value 0 behind it is lost, in rings as well.
    valued = [row + (value(key, row),) for row in rows] + [ONE + (key[1],)]
    return [vector[:WIDTH] for vector in stepped(valued, WIDTH + 1) if vector[WIDTH] == 0]


def lost(keys):
    """The lost table of the keys."""
    found = stepped([unit(place, WIDTH) for place in range(WIDTH)], WIDTH)
    for key in checked_keys(keys):
        found = lost_among(found, key)
    return found
