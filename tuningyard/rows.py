"""Rows, the powers of 2, 3, 5, 7 and 11; tones among them; and their fractions."""

from tuningyard.errors import NoSpan, TooFar

ONE = (0, 0, 0, 0, 0)
PRIMES = (2, 3, 5, 7, 11)
BOUNDS = (700, 60, 60, 60, 60)


def is_whole(thing):
    """Whether a thing is an int that is no truth."""
    return isinstance(thing, int) and not isinstance(thing, bool)


def is_row(thing):
    """Whether a thing is a tuple of five whole numbers."""
    if not isinstance(thing, tuple) or len(thing) != len(ONE):
        return False
    return all([is_whole(number) for number in thing])


def is_tone(thing):
    """Whether a thing, whatever it is, is a row within the bounds of a tone."""
    if not is_row(thing):
        return False
    return all([abs(number) <= bound for number, bound in zip(thing, BOUNDS)])


def tone_of(row):
    """The row itself, where it is a tone."""
    if not is_tone(row):
        # The words name no number: Python may refuse to write a very long one.
        raise TooFar("the row is no tone")
    return row


def times(one, other):
    """The product of two rows."""
    return tuple([number + added for number, added in zip(one, other)])


def over(one, other):
    """The first row divided by the second."""
    return tuple([number - taken for number, taken in zip(one, other)])


def power(row, n):
    """The row raised to a power of any sign."""
    return tuple([number * n for number in row])


def counted_out(number, prime):
    """How often the prime divides a number from 1 on, and what is left of it then."""
    count = 0
    left = number
    while left % prime == 0:
        left = left // prime
        count = count + 1
    return (count, left)


def split_up(number):
    """The row of a number from 1 on, and what no prime of the rows divides in it."""
    powers = []
    left = number
    for prime in PRIMES:
        found = counted_out(left, prime)
        powers.append(found[0])
        left = found[1]
    return (tuple(powers), left)


def row_of(top, bottom):
    """The row whose number is the fraction top / bottom, in lowest terms or not."""
    if top < 1 or bottom < 1:
        raise NoSpan("top and bottom are not both from 1 on")
    above = split_up(top)
    below = split_up(bottom)
    # Other primes are no hindrance where they stand in both alike: then they fall out in lowest terms.
    if above[1] != below[1]:
        raise NoSpan("the fraction is the number of no row")
    return over(above[0], below[0])


def raised(base, exponent):
    """The base raised to an exponent from 0 on."""
    product = 1
    for step in range(exponent):
        product = product * base
    return product


def number_of(row):
    """The number of a row whose powers are from 0 on."""
    product = 1
    for prime, exponent in zip(PRIMES, row):
        product = product * raised(prime, exponent)
    return product


def fraction_of(tone):
    """The pair (top, bottom) of the tone's fraction in lowest terms."""
    # No prime stands in both, so nothing has to be reduced.
    top = number_of([max(number, 0) for number in tone])
    bottom = number_of([max(-number, 0) for number in tone])
    return (top, bottom)
