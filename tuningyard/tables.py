"""Commas, their table by steps, and the rest of a row by them."""

from tuningyard.errors import NoCommas
from tuningyard.rows import over, power

WIDTH = 5
MOST_COMMAS = 6

# A vector here is a row, perhaps with more numbers behind it that are reckoned along.


def checked_commas(commas):
    """The commas themselves, where they are not too many."""
    if len(commas) > MOST_COMMAS:
        raise NoCommas("commas are at most six")
    return commas


def unit(place, size):
    """The vector of so many noughts, but for a 1 at the place."""
    return tuple([1 if here == place else 0 for here in range(size)])


def lead_place(row):
    """The place of the last number that is not 0, of a row other than ONE."""
    return max([place for place, number in enumerate(row) if number != 0])


def lowered(vector, step, place):
    """The vector divided by a power of the step: at the place nearer to 0 than the step, on the same side of 0."""
    return over(vector, power(step, vector[place] // step[place]))


def parted(vectors, place):
    """Vectors that make the same as these: a pair (those with a number other than 0 at the place, the others).

    The first list has at most one vector, and its number there is above 0.
    """
    led = [vector for vector in vectors if vector[place] != 0]
    others = [vector for vector in vectors if vector[place] == 0]
    while len(led) > 1:
        led = sorted(led, key=lambda vector: abs(vector[place]))
        least = led[0]
        left = [lowered(vector, least, place) for vector in led[1:]]
        led = [least] + [vector for vector in left if vector[place] != 0]
        others = others + [vector for vector in left if vector[place] == 0]
    return ([power(vector, -1) if vector[place] < 0 else vector for vector in led], others)


def stepped(vectors, size):
    """The table by steps of the vectors, their leads looked for among their first numbers, so many of them."""
    steps = []
    left = vectors
    for place in range(size - 1, -1, -1):
        parts = parted(left, place)
        left = parts[1]
        for lead in parts[0]:
            steps = [lowered(step, lead, place) for step in steps] + [lead]
    return steps


def marked_table(commas):
    """The table of the commas, behind each row the powers of the commas that make it."""
    checked = checked_commas(commas)
    marked = [comma + unit(place, len(checked)) for place, comma in enumerate(checked)]
    return stepped(marked, WIDTH)


def table(commas):
    """The table by steps that makes the same rows as the commas."""
    return stepped(checked_commas(commas), WIDTH)


def table_powers(commas):
    """For each row of the table a list of powers of the commas that make it."""
    return [list(vector[WIDTH:]) for vector in marked_table(commas)]


def left_by(steps, vector):
    """What is left of a vector where each lead of a table by steps is taken away as often as it can be."""
    left = vector
    for step in steps:
        left = lowered(left, step, lead_place(step[:WIDTH]))
    return left


def rest_and_powers(commas, row):
    """The rest of a row by commas, and powers of the commas that make the row divided by its rest."""
    left = left_by(marked_table(commas), row + tuple([0 for comma in commas]))
    return (left[:WIDTH], [-number for number in left[WIDTH:]])


def rest(commas, row):
    """The row's rest, which alone is below each lead of the table and divides the row into a row made by the commas."""
    return rest_and_powers(commas, row)[0]
