"""What several tests reckon with, apart from the program."""

from fractions import Fraction

HIGHEST = (700, 60, 60, 60, 60)
LOWEST = (-700, -60, -60, -60, -60)


def number(row):
    """A row's number."""
    product = Fraction(1)
    for prime, exponent in zip((2, 3, 5, 7, 11), row):
        product *= Fraction(prime) ** exponent
    return product
