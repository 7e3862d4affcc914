"""Measure, order, octaves and folding: points 2, 7 and 8."""

import itertools
import unittest
from fractions import Fraction

from helper import HIGHEST, LOWEST, number
from tuningyard.rows import ONE, is_tone, over, power, times
from tuningyard.sizes import compare, folded, measure, octaves, rising

OCTAVE = (1, 0, 0, 0, 0)
FACTOR = 2 ** 700 * 1155 ** 60
# Above 1 by about 1 in 800 millions, and two tones about 1 in 20000 millions apart.
NEAR_ONE = (-181, -21, 10, 20, 39)
NEAR_PAIR = ((-139, 44, 28, 42, -33), (138, -44, -28, -42, 33))
SAMPLE = list(itertools.product((-700, -31, 0, 700), (-60, 1, 60), (-60, 0, 60), (-60, -7, 60), (-60, 3, 60)))


class Measures(unittest.TestCase):
    def test_known_ones(self):
        self.assertEqual(measure(ONE), FACTOR)
        self.assertEqual(measure(OCTAVE), 2 * FACTOR)
        self.assertEqual(measure((-2, 0, 1, 0, 0)), 5 * FACTOR // 4)
        self.assertEqual(measure(LOWEST), 1)
        self.assertEqual(measure(HIGHEST), FACTOR * FACTOR)

    def test_the_number_times_the_factor(self):
        for tone in SAMPLE:
            self.assertIs(type(measure(tone)), int)
            self.assertEqual(measure(tone), number(tone) * FACTOR)

    def test_less_for_lower_tones(self):
        low, high = NEAR_PAIR
        self.assertLess(measure(low), measure(high))
        self.assertLess(measure(ONE), measure(NEAR_ONE))
        self.assertLess(measure(power(NEAR_ONE, -1)), measure(ONE))
        self.assertLess(measure(LOWEST), measure(times(LOWEST, OCTAVE)))
        self.assertLess(measure(over(HIGHEST, OCTAVE)), measure(HIGHEST))

    def test_unlike_tones_have_unlike_measures(self):
        self.assertEqual(len({measure(tone) for tone in SAMPLE}), len(SAMPLE))


class Order(unittest.TestCase):
    def assertLower(self, low, high):
        for found, wanted in ((compare(low, high), -1), (compare(high, low), 1)):
            self.assertIs(type(found), int)
            self.assertEqual(found, wanted)

    def test_ordinary_tones(self):
        self.assertLower(ONE, OCTAVE)
        self.assertLower((-2, 0, 1, 0, 0), (-1, 1, 0, 0, 0))
        self.assertLower((0, 0, 0, 0, -1), (-3, 0, 0, 0, 0))

    def test_the_same_tone(self):
        for tone in (ONE, OCTAVE, HIGHEST, LOWEST, NEAR_ONE):
            self.assertEqual(compare(tone, tuple(list(tone))), 0)
            self.assertIs(type(compare(tone, tone)), int)

    def test_tones_that_lie_near_each_other(self):
        self.assertLower(NEAR_PAIR[0], NEAR_PAIR[1])
        self.assertLower(ONE, NEAR_ONE)
        self.assertLower(power(NEAR_ONE, -1), ONE)
        self.assertLower((0, 0, 0, 0, 0), (-3, 4, -2, -2, 2))

    def test_bounds(self):
        self.assertLower(LOWEST, HIGHEST)
        self.assertLower(LOWEST, times(LOWEST, OCTAVE))
        self.assertLower(over(HIGHEST, OCTAVE), HIGHEST)

    def test_as_the_numbers_lie(self):
        for one, other in zip(SAMPLE, SAMPLE[1:] + SAMPLE[:1]):
            if number(one) < number(other):
                self.assertLower(one, other)
            else:
                self.assertLower(other, one)


class Rising(unittest.TestCase):
    def test_from_low_to_high(self):
        tones = [OCTAVE, (-2, 0, 1, 0, 0), HIGHEST, ONE, LOWEST, (-1, 1, 0, 0, 0), NEAR_ONE]
        wanted = [LOWEST, ONE, NEAR_ONE, (-2, 0, 1, 0, 0), (-1, 1, 0, 0, 0), OCTAVE, HIGHEST]
        self.assertEqual(rising(tones), wanted)
        self.assertEqual(rising(wanted), wanted)
        self.assertEqual(rising(wanted[::-1]), wanted)

    def test_equal_ones_are_kept(self):
        self.assertEqual(rising([OCTAVE, ONE, OCTAVE, ONE, ONE]), [ONE, ONE, ONE, OCTAVE, OCTAVE])

    def test_without_tones_and_of_one(self):
        self.assertEqual(rising([]), [])
        self.assertEqual(rising([OCTAVE]), [OCTAVE])

    def test_sixty_tones(self):
        tones = SAMPLE[::5][:60]
        self.assertEqual(len(tones), 60)
        self.assertEqual(rising(tones), sorted(tones, key=number))

    def test_what_is_handed_in_stays(self):
        tones = [OCTAVE, ONE, OCTAVE]
        rising(tones)
        self.assertEqual(tones, [OCTAVE, ONE, OCTAVE])

    def test_a_new_list_each_time(self):
        for tones in ([], [ONE], [ONE, OCTAVE]):
            kept = list(tones)
            first = rising(tones)
            second = rising(tones)
            self.assertIs(type(first), list)
            self.assertIsNot(first, tones)
            self.assertIsNot(first, second)
            first.append(HIGHEST)
            self.assertEqual(tones, kept)
            self.assertEqual(second, kept)
            self.assertEqual(rising(tones), kept)

    def test_changes_later_change_nothing(self):
        tones = [OCTAVE, ONE]
        found = rising(tones)
        tones.append(HIGHEST)
        self.assertEqual(found, [ONE, OCTAVE])


class Octaves(unittest.TestCase):
    def test_powers_of_two(self):
        for n in range(-700, 701):
            self.assertEqual(octaves((n, 0, 0, 0, 0)), n)
            self.assertIs(type(octaves((n, 0, 0, 0, 0))), int)

    def test_ordinary_tones(self):
        self.assertEqual(octaves((-2, 0, 1, 0, 0)), 0)
        self.assertEqual(octaves((0, 1, 0, 0, 0)), 1)
        self.assertEqual(octaves((0, 0, 0, 0, 1)), 3)
        self.assertEqual(octaves((0, -1, 0, 0, 0)), -2)
        self.assertEqual(octaves((0, 0, 0, 0, -1)), -4)

    def test_just_above_and_just_below_powers_of_two(self):
        for n in (-519, -100, -2, -1, 0, 1, 2, 100, 519):
            there = (n, 0, 0, 0, 0)
            self.assertEqual(octaves(times(there, NEAR_ONE)), n)
            self.assertEqual(octaves(over(there, NEAR_ONE)), n - 1)

    def test_bounds_of_each_octave(self):
        for tone in SAMPLE + [HIGHEST, LOWEST]:
            n = octaves(tone)
            self.assertTrue(Fraction(2) ** n <= number(tone) < Fraction(2) ** (n + 1))


class Folding(unittest.TestCase):
    def test_ordinary_tones(self):
        self.assertEqual(folded((0, 0, 1, 0, 0)), (-2, 0, 1, 0, 0))
        self.assertEqual(folded((0, 1, 0, 0, 0)), (-1, 1, 0, 0, 0))
        self.assertEqual(folded((0, -1, 0, 0, 0)), (2, -1, 0, 0, 0))
        self.assertEqual(folded((-2, 0, 1, 0, 0)), (-2, 0, 1, 0, 0))

    def test_powers_of_two_become_one(self):
        for n in (-700, -1, 0, 1, 700):
            self.assertEqual(folded((n, 0, 0, 0, 0)), ONE)

    def test_just_above_and_just_below_powers_of_two(self):
        for n in (-519, -1, 0, 1, 519):
            there = (n, 0, 0, 0, 0)
            self.assertEqual(folded(times(there, NEAR_ONE)), NEAR_ONE)
            self.assertEqual(folded(over(there, NEAR_ONE)), over(OCTAVE, NEAR_ONE))

    def test_a_tone_from_one_on_and_below_two(self):
        for tone in SAMPLE + [HIGHEST, LOWEST]:
            found = folded(tone)
            self.assertIs(is_tone(found), True)
            self.assertTrue(1 <= number(found) < 2)
            self.assertEqual(found[1:], tone[1:])
            self.assertEqual(folded(found), found)
            self.assertEqual(octaves(found), 0)


if __name__ == "__main__":
    unittest.main()
