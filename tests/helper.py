"""What several tests reckon with, apart from the program."""

from fractions import Fraction

HIGHEST = (700, 60, 60, 60, 60)
LOWEST = (-700, -60, -60, -60, -60)


def number(row):
    """A row's number."""
    product = Fraction(1)
    for prime, exponent in zip((2, 3, 5, 7, 11), row):
        product *= Fraction(prime) ** exponent
    return product


def fold(row):
    """A row multiplied by the power of 2 that puts its number from 1 on and below 2."""
    while number(row) >= 2:
        row = (row[0] - 1,) + row[1:]
    while number(row) < 1:
        row = (row[0] + 1,) + row[1:]
    return row


class Dice:
    """Numbers that look thrown but are the same in every run."""

    def __init__(self, start):
        self.state = start

    def throw(self, low, high):
        """A whole number from low to high."""
        drawn = 0
        for _ in range(1 + (high - low).bit_length() // 32):
            self.state = (self.state * 6364136223846793005 + 1442695040888963407) % 2 ** 64
            drawn = drawn * 2 ** 32 + self.state // 2 ** 32
        return low + drawn % (high - low + 1)

    def row(self, bound):
        """A row of numbers from -bound to bound."""
        return tuple(self.throw(-bound, bound) for _ in range(5))
