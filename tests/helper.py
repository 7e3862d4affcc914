"""What several tests reckon with, apart from the program."""

from fractions import Fraction

HIGHEST = (700, 60, 60, 60, 60)
LOWEST = (-700, -60, -60, -60, -60)


def number(row):
    """A row's number."""
    product = Fraction(1)
    for prime, exponent in zip((2, 3, 5, 7, 11), row):
        product *= Fraction(prime) ** exponent
    return product


def fold(row):
    """A row multiplied by the power of 2 that puts its number from 1 on and below 2."""
    while number(row) >= 2:
        row = (row[0] - 1,) + row[1:]
    while number(row) < 1:
        row = (row[0] + 1,) + row[1:]
    return row


class Dice:
    """Numbers that look thrown but are the same in every run."""

    def __init__(self, start):
        self.state = start

    def throw(self, low, high):
        """A whole number from low to high."""
        drawn = 0
        for _ in range(1 + (high - low).bit_length() // 32):
            self.state = (self.state * 6364136223846793005 + 1442695040888963407) % 2 ** 64
            drawn = drawn * 2 ** 32 + self.state // 2 ** 32
        return low + drawn % (high - low + 1)

    def row(self, bound):
        """A row of numbers from -bound to bound."""
        return tuple(self.throw(-bound, bound) for _ in range(5))


def product(rows, powers):
    """The product of rows, each raised to a power of its own."""
    return tuple(sum(row[place] * n for row, n in zip(rows, powers)) for place in range(5))


def lead(row):
    """The place of a row's last number that is not 0."""
    return max(place for place in range(5) if row[place] != 0)


def is_table_by_steps(rows):
    """Whether rows have the form of a table by steps."""
    if any(row == (0, 0, 0, 0, 0) or row[lead(row)] <= 0 for row in rows):
        return False
    leads = [lead(row) for row in rows]
    if any(after >= ahead for ahead, after in zip(leads, leads[1:])):
        return False
    return all(
        0 <= ahead[leads[place]] < row[leads[place]] for place, row in enumerate(rows) for ahead in rows[:place]
    )


def left_by(steps, row):
    """What is left of a row where the leads of a table by steps are taken away as often as they can be."""
    for step in steps:
        often = row[lead(step)] // step[lead(step)]
        row = tuple(entry - often * taken for entry, taken in zip(row, step))
    return row


def is_made(steps, row):
    """Whether a table by steps makes a row."""
    return left_by(steps, row) == (0, 0, 0, 0, 0)


def heard_as(key, row):
    """A row's value by a key."""
    total = sum(entry * weight for entry, weight in zip(row, key[0]))
    return total % key[1] if key[1] else total


def leads_product(steps):
    """The product of all leads of a table by steps."""
    whole = 1
    for step in steps:
        whole *= step[lead(step)]
    return whole
