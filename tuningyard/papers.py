"""Keys' values, and the paper that shows whether a row is made by commas."""

from tuningyard.figures import divisor_of
from tuningyard.rows import ONE
from tuningyard.tables import WIDTH, lead_place, rest_and_powers, table, unit


def heard(weights, row):
    """The sum of the products of a row's numbers with the weights, as far as there are weights."""
    return sum([number * weight for number, weight in zip(row, weights)])


def value(key, row):
    """The row's value by the key: the sum of the products, or what is left of it by the ring."""
    total = heard(key[0], row)
    return total if key[1] == 0 else total % key[1]


def by_place(steps):
    """Five rows: at each lead's place the row of the table by steps, elsewhere the row with a 1 there alone."""
    rows = [unit(place, WIDTH) for place in range(WIDTH)]
    for step in steps:
        rows[lead_place(step)] = step
    return rows


def product_of_leads(steps):
    """The product of all leads of a table by steps."""
    product = 1
    for step in steps:
        product = product * step[lead_place(step)]
    return product


def weights_for(rows, place, whole):
    """The row by which, as a key with ring 0, the row of this place has the value whole, the other four 0."""
    weights = []
    # Each row has noughts behind its own place, so its value hangs on the weights up to there alone.
    for here, row in enumerate(rows):
        wanted = whole if here == place else 0
        weights.append((wanted - heard(weights, row)) // row[here])
    return tuple(weights)


def key_of(weights, ring):
    """The key in its least numbers to which the same rows are lost; its ring may come to 1, where all rows are."""
    divisor = divisor_of((ring,) + weights)
    row = tuple([number // divisor for number in weights])
    if ring == 0:
        return (row, 0)
    return (tuple([number % (ring // divisor) for number in row]), ring // divisor)


def keys_by_place(steps):
    """Keys to which just the rows are lost that the table by steps makes; at most one for each place."""
    # Each row is in one way a product of powers, perhaps broken ones, of the rows by place; the table makes it just
    # where the powers at leads are whole and the others 0. Times the product of all leads each power is whole, and is
    # the row's value by weights_for.
    rows = by_place(steps)
    whole = product_of_leads(steps)
    leads = [lead_place(step) for step in steps]
    keys = [key_of(weights_for(rows, place, whole), whole if place in leads else 0) for place in range(WIDTH)]
    return [key for key in keys if key[1] != 1]


def paper(commas, row):
    """("made", powers) where the row is made by the commas, else ("told", key)."""
    found = rest_and_powers(commas, row)
    if found[0] == ONE:
        return ("made", found[1])
    telling = [key for key in keys_by_place(table(commas)) if value(key, row) != 0]
    return ("told", telling[0])
