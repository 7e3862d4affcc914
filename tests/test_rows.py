"""Rows, tones and fractions: points 2, 4, 5 and 6."""

import itertools
import math
import unittest
from fractions import Fraction

from helper import HIGHEST, LOWEST, number
from tuningyard.errors import NoSpan, TooFar
from tuningyard.rows import ONE, fraction_of, is_tone, over, power, row_of, times, tone_of

LONG = 10 ** 25 - 1  # a number of 25 figures
SAMPLE = list(itertools.product((-700, -1, 0, 13, 700), (-60, 0, 60), (-60, 2, 60), (-60, -7, 60), (-60, 0, 60)))


def with_number(place, entry):
    """The row of noughts, but for one number."""
    row = [0, 0, 0, 0, 0]
    row[place] = entry
    return tuple(row)


class RowCase(unittest.TestCase):
    def assertRow(self, found, wanted):
        self.assertEqual(found, wanted)
        self.assertIs(type(found), tuple)
        self.assertEqual([type(entry) for entry in found], [int] * 5)


class Reckoning(RowCase):
    def test_one(self):
        self.assertRow(ONE, (0, 0, 0, 0, 0))

    def test_times_adds(self):
        self.assertRow(times((1, 2, 3, 4, 5), (10, -20, 30, -40, 50)), (11, -18, 33, -36, 55))

    def test_over_takes_the_second_away(self):
        self.assertRow(over((1, 2, 3, 4, 5), (10, -20, 30, -40, 50)), (-9, 22, -27, 44, -45))

    def test_power_multiplies(self):
        self.assertRow(power((1, -2, 3, 0, 5), 3), (3, -6, 9, 0, 15))

    def test_power_below_nought_and_nought(self):
        self.assertRow(power((1, -2, 3, 0, 5), -2), (-2, 4, -6, 0, -10))
        self.assertRow(power((1, -2, 3, 0, 5), 0), ONE)
        self.assertRow(power((1, -2, 3, 0, 5), 1), (1, -2, 3, 0, 5))
        self.assertRow(power((1, -2, 3, 0, 5), -1), (-1, 2, -3, 0, -5))
        self.assertRow(power(ONE, -17), ONE)

    def test_long_numbers(self):
        one = (LONG, -LONG, LONG, 1, 0)
        other = (LONG, LONG, -LONG, LONG, -LONG)
        self.assertRow(times(one, other), (2 * LONG, 0, 0, LONG + 1, -LONG))
        self.assertRow(over(one, other), (0, -2 * LONG, 2 * LONG, 1 - LONG, LONG))
        self.assertRow(power(one, LONG), (LONG * LONG, -LONG * LONG, LONG * LONG, LONG, 0))
        self.assertRow(power(one, -LONG), (-LONG * LONG, LONG * LONG, -LONG * LONG, -LONG, 0))

    def test_products_beyond_the_bounds_of_a_tone_are_rows(self):
        self.assertRow(times(HIGHEST, HIGHEST), (1400, 120, 120, 120, 120))
        self.assertRow(over(LOWEST, HIGHEST), (-1400, -120, -120, -120, -120))
        self.assertRow(power(HIGHEST, 2), (1400, 120, 120, 120, 120))

    def test_times_one_and_over_itself(self):
        for row in SAMPLE + [(LONG, -LONG, 3, 0, 1)]:
            self.assertRow(times(row, ONE), row)
            self.assertRow(times(ONE, row), row)
            self.assertRow(over(row, ONE), row)
            self.assertRow(over(row, row), ONE)
            self.assertRow(over(ONE, row), power(row, -1))

    def test_times_and_over_undo_each_other(self):
        for one, other in zip(SAMPLE, SAMPLE[7:]):
            self.assertRow(over(times(one, other), other), one)
            self.assertEqual(number(times(one, other)), number(one) * number(other))
            self.assertEqual(number(over(one, other)), number(one) / number(other))


class Tones(RowCase):
    def assertTone(self, row):
        self.assertIs(is_tone(row), True)
        self.assertIs(tone_of(row), row)

    def assertNoTone(self, row):
        self.assertIs(is_tone(row), False)
        with self.assertRaises(TooFar):
            tone_of(row)

    def test_bounds_of_the_first_number(self):
        self.assertTone(with_number(0, 700))
        self.assertTone(with_number(0, -700))
        self.assertNoTone(with_number(0, 701))
        self.assertNoTone(with_number(0, -701))

    def test_bounds_of_the_others(self):
        for place in range(1, 5):
            with self.subTest(place=place):
                self.assertTone(with_number(place, 60))
                self.assertTone(with_number(place, -60))
                self.assertNoTone(with_number(place, 61))
                self.assertNoTone(with_number(place, -61))

    def test_all_numbers_at_their_bounds(self):
        for row in itertools.product((-700, 700), (-60, 60), (-60, 60), (-60, 60), (-60, 60)):
            self.assertTone(row)
            for place in range(5):
                self.assertNoTone(times(row, with_number(place, 1 if row[place] > 0 else -1)))

    def test_ordinary_rows(self):
        self.assertTone(ONE)
        self.assertTone((-2, 0, 1, 0, 0))
        self.assertNoTone((LONG, 0, 0, 0, 0))
        self.assertNoTone((0, 0, 0, 0, -LONG))

    def test_numbers_too_long_to_be_written(self):
        self.assertNoTone((10 ** 6000, 0, 0, 0, 0))
        self.assertNoTone((0, 0, -10 ** 6000, 0, 0))

    def test_what_is_no_row(self):
        no_rows = [
            None, True, False, 0, 1, 0.5, "", "00000", "(0, 0, 0, 0, 0)", b"00000", (), [], {}, set(), object(),
            [0, 0, 0, 0, 0], (0,), (0, 0, 0, 0), (0, 0, 0, 0, 0, 0), range(5), {0: 0, 1: 0, 2: 0, 3: 0, 4: 0},
            (ONE, ONE, ONE, ONE, ONE), (ONE,), [ONE], tuple, is_tone, float("nan"), frozenset(range(5)),
        ]
        for thing in no_rows:
            with self.subTest(thing=thing):
                self.assertIs(is_tone(thing), False)

    def test_what_is_no_whole_number_in_a_row(self):
        for wrong in (True, False, None, "0", "", [], [0], (), (0,), 0.0, 1.5, float("nan"), 1j, {}, object()):
            for place in range(5):
                with self.subTest(wrong=wrong, place=place):
                    self.assertIs(is_tone(with_number(place, wrong)), False)

    def test_objects_that_answer_nothing(self):
        class Mute:
            def refuse(self, *others):
                raise RuntimeError("nothing is asked of this")
            __len__ = __iter__ = __bool__ = __eq__ = __lt__ = __le__ = __abs__ = __getitem__ = __hash__ = refuse

        self.assertIs(is_tone(Mute()), False)
        for place in range(5):
            self.assertIs(is_tone(with_number(place, Mute())), False)


class Fractions(RowCase):
    def test_lowest_terms(self):
        self.assertRow(row_of(1, 1), ONE)
        self.assertRow(row_of(2, 1), (1, 0, 0, 0, 0))
        self.assertRow(row_of(5, 4), (-2, 0, 1, 0, 0))
        self.assertRow(row_of(3, 2), (-1, 1, 0, 0, 0))
        self.assertRow(row_of(1, 11), (0, 0, 0, 0, -1))
        self.assertRow(row_of(2401, 2400), (-5, -1, -2, 4, 0))
        self.assertRow(row_of(9801, 9800), (-3, 4, -2, -2, 2))

    def test_not_in_lowest_terms(self):
        self.assertRow(row_of(10, 8), (-2, 0, 1, 0, 0))
        self.assertRow(row_of(2310, 2310), ONE)
        self.assertRow(row_of(12, 30), (1, 0, -1, 0, 0))

    def test_other_primes_fall_out_in_lowest_terms(self):
        self.assertRow(row_of(13, 13), ONE)
        self.assertRow(row_of(65, 52), (-2, 0, 1, 0, 0))
        self.assertRow(row_of(26, 39), (1, -1, 0, 0, 0))
        self.assertRow(row_of(17 * 19 * 77, 17 * 19 * 6), (-1, -1, 0, 1, 1))

    def test_numbers_of_400_figures(self):
        self.assertRow(row_of(10 ** 399, 1), (399, 0, 399, 0, 0))
        self.assertRow(row_of(1, 10 ** 399), (-399, 0, -399, 0, 0))
        self.assertRow(row_of(2 ** 1328, 11 ** 384), (1328, 0, 0, 0, -384))
        self.assertRow(row_of(3 ** 838, 7 ** 473), (0, 838, 0, -473, 0))
        other = 13 ** 350
        self.assertRow(row_of(5 * other, 4 * other), (-2, 0, 1, 0, 0))
        self.assertRow(row_of(10 ** 400 - 1, 10 ** 400 - 1), ONE)

    def test_no_rows_number(self):
        wrong = [
            (13, 1), (1, 13), (13, 17), (26, 51), (14, 13), (13, 14), (5 * 13, 4 * 17), (169, 13), (13, 169),
            (10 ** 400 - 1, 1), (1, 10 ** 400 - 1), (10 ** 400 - 1, 10 ** 400 - 3), (10 ** 399 * 9 + 1, 10 ** 399),
        ]
        for top, bottom in wrong:
            with self.subTest(top=top, bottom=bottom):
                with self.assertRaises(NoSpan):
                    row_of(top, bottom)

    def test_nought_and_below(self):
        for top, bottom in itertools.product((0, -1, -2, -5, -13, 1, 2, 13, -10 ** 399), repeat=2):
            if top < 1 or bottom < 1:
                with self.subTest(top=top, bottom=bottom):
                    with self.assertRaises(NoSpan):
                        row_of(top, bottom)

    def test_every_small_fraction(self):
        for top, bottom in itertools.product(range(1, 60), repeat=2):
            fraction = Fraction(top, bottom)
            whole = all(largest_prime(part) <= 11 for part in (fraction.numerator, fraction.denominator))
            if whole:
                self.assertEqual(number(row_of(top, bottom)), fraction)
            else:
                with self.assertRaises(NoSpan):
                    row_of(top, bottom)

    def test_fraction_of(self):
        self.assertEqual(fraction_of(ONE), (1, 1))
        self.assertEqual(fraction_of((-2, 0, 1, 0, 0)), (5, 4))
        self.assertEqual(fraction_of((1, 0, 0, 0, 0)), (2, 1))
        self.assertEqual(fraction_of((-1, 0, 0, 0, 0)), (1, 2))
        self.assertEqual(fraction_of((1, -1, 1, -1, 1)), (110, 21))

    def test_fraction_of_at_the_bounds(self):
        self.assertEqual(fraction_of(HIGHEST), (2 ** 700 * 1155 ** 60, 1))
        self.assertEqual(fraction_of(LOWEST), (1, 2 ** 700 * 1155 ** 60))
        self.assertEqual(fraction_of((-700, 60, 60, 60, 60)), (1155 ** 60, 2 ** 700))

    def test_there_and_back(self):
        for tone in SAMPLE + [HIGHEST, LOWEST]:
            pair = fraction_of(tone)
            self.assertIs(type(pair), tuple)
            self.assertEqual([type(part) for part in pair], [int, int])
            self.assertTrue(min(pair) >= 1)
            self.assertEqual(math.gcd(pair[0], pair[1]), 1)
            self.assertEqual(Fraction(pair[0], pair[1]), number(tone))
            self.assertRow(row_of(pair[0], pair[1]), tone)


def largest_prime(whole):
    """The largest prime in a number from 1 on; 1 of 1."""
    largest = 1
    for prime in range(2, whole + 1):
        while whole % prime == 0:
            whole //= prime
            largest = prime
    return largest


if __name__ == "__main__":
    unittest.main()
