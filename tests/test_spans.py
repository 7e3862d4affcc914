"""Spans written and read, and chains: points 2, 12 and 13."""

import itertools
import unittest
from fractions import Fraction

from helper import HIGHEST, LOWEST, number
from tuningyard.errors import NoSpan, TooFar
from tuningyard.rows import ONE, is_tone, power, row_of, times
from tuningyard.spans import chain, span_read, span_text

FIFTH = (-1, 1, 0, 0, 0)


class Writing(unittest.TestCase):
    def test_lowest_terms(self):
        for top, bottom, text in (
            (1, 1, "1/1"), (2, 1, "2/1"), (5, 4, "5/4"), (10, 8, "5/4"), (3, 2, "3/2"), (81, 80, "81/80"),
            (2401, 2400, "2401/2400"), (110, 21, "110/21"),
        ):
            found = span_text(row_of(top, bottom))
            self.assertIs(type(found), str)
            self.assertEqual(found, text)

    def test_below_one(self):
        self.assertEqual(span_text((-1, 0, 0, 0, 0)), "1/2")
        self.assertEqual(span_text((2, 0, -1, 0, 0)), "4/5")
        self.assertEqual(span_text((0, 0, 0, 0, -1)), "1/11")
        self.assertEqual(span_text((4, -4, 1, 0, 0)), "80/81")

    def test_60_and_61_figures(self):
        sixty = (59, 0, 59, 0, 0)
        self.assertEqual(span_text(sixty), "1" + "0" * 59 + "/1")
        self.assertEqual(span_text(power(sixty, -1)), "1/1" + "0" * 59)
        for wide in ((60, 0, 60, 0, 0), (199, 1, 0, 0, 0), (57, 0, 60, 0, 0)):
            for row, place in ((wide, 0), (power(wide, -1), 1)):
                part = str((number(row).numerator, number(row).denominator)[place])
                if len(part) <= 60:
                    self.assertEqual(span_text(row).split("/")[place], part)
                else:
                    with self.assertRaises(TooFar):
                        span_text(row)

    def test_the_last_that_can_be_written(self):
        self.assertEqual(len(str(2 ** 199)), 60)
        self.assertEqual(len(str(2 ** 200)), 61)
        self.assertEqual(span_text((199, 0, 0, 0, 0)), f"{2 ** 199}/1")
        self.assertEqual(span_text((-199, 0, 0, 0, 0)), f"1/{2 ** 199}")
        self.assertEqual(span_text((-199, 60, 0, 0, 0)), f"{3 ** 60}/{2 ** 199}")
        for far in ((200, 0, 0, 0, 0), (-200, 0, 0, 0, 0), (-200, 60, 0, 0, 0), (60, 0, 60, 0, 0), (-60, 0, -60, 0, 0)):
            with self.assertRaises(TooFar):
                span_text(far)

    def test_the_bounds(self):
        for far in (HIGHEST, LOWEST, (-700, 60, 60, 60, 60), (0, 60, 60, -60, -60)):
            with self.assertRaises(TooFar):
                span_text(far)


class Reading(unittest.TestCase):
    def assertNoSpan(self, text):
        with self.assertRaises(NoSpan, msg=repr(text)):
            span_read(text)

    def assertTooFar(self, text):
        with self.assertRaises(TooFar, msg=repr(text)):
            span_read(text)

    def test_lowest_terms(self):
        self.assertEqual(span_read("5/4"), (-2, 0, 1, 0, 0))
        self.assertEqual(span_read("2/1"), (1, 0, 0, 0, 0))
        self.assertEqual(span_read("1/1"), ONE)
        self.assertEqual(span_read("1/2"), (-1, 0, 0, 0, 0))
        self.assertEqual(span_read("9801/9800"), (-3, 4, -2, -2, 2))
        self.assertIs(type(span_read("5/4")), tuple)

    def test_not_in_lowest_terms(self):
        self.assertEqual(span_read("10/8"), (-2, 0, 1, 0, 0))
        self.assertEqual(span_read("7/7"), ONE)
        self.assertEqual(span_read("30/20"), FIFTH)
        self.assertEqual(span_read("26/39"), (1, -1, 0, 0, 0))
        self.assertEqual(span_read("9" * 60 + "/" + "9" * 60), ONE)

    def test_noughts(self):
        for text in ("0/1", "1/0", "0/0", "00/1", "1/00", "05/4", "5/04", "005/4", "5/4/0", "0", "0/4", "5/0"):
            self.assertNoSpan(text)

    def test_strokes(self):
        for text in ("", "/", "//", "5", "54", "5/", "/4", "5//4", "5/4/", "/5/4", "5/4/3", "5/4/3/2", "5\\4", "5:4"):
            self.assertNoSpan(text)

    def test_other_signs(self):
        for text in (
            " 5/4", "5/4 ", "5 /4", "5/ 4", "+5/4", "5/+4", "-5/4", "5/-4", "-5/-4", "5.0/4", "5e0/4", "5_0/4", "5/4_0",
            "a/b", "0x5/4", "5/4a", "5,4", "1/1 1/1", "C.0", "five/four", "5/4\n", "\n5/4", "5/4.", "(5/4)", "5'/4",
        ):
            self.assertNoSpan(text)

    def test_60_and_61_figures(self):
        sixty = "1" + "0" * 59
        self.assertEqual(span_read(sixty + "/1"), (59, 0, 59, 0, 0))
        self.assertEqual(span_read("1/" + sixty), (-59, 0, -59, 0, 0))
        self.assertEqual(span_read(sixty + "/" + sixty), ONE)
        self.assertNoSpan(sixty + "0/1")
        self.assertNoSpan("1/" + sixty + "0")
        self.assertNoSpan(sixty + "0/" + sixty + "0")
        self.assertNoSpan("0" * 60 + "1/1")
        self.assertNoSpan("1" * 9999 + "/" + "1" * 9999)
        self.assertNoSpan("1" * 20000)

    def test_no_rows_number(self):
        for text in ("13/1", "1/13", "13/12", "17/13", "26/51", "9" * 60 + "/1", "1/" + "9" * 60, "169/13"):
            self.assertNoSpan(text)

    def test_rows_that_are_no_tone(self):
        self.assertEqual(span_read(f"{3 ** 60}/1"), (0, 60, 0, 0, 0))
        self.assertEqual(span_read(f"1/{5 ** 60}"), (0, 0, -60, 0, 0))
        self.assertEqual(span_read(f"{7 ** 60}/{11 ** 57}"), (0, 0, 0, 60, -57))
        for text in (f"{3 ** 61}/1", f"1/{3 ** 61}", f"{5 ** 61}/2", f"4/{7 ** 61}", f"{3 ** 62 * 2}/{3 * 4}"):
            self.assertTooFar(text)
        self.assertEqual(span_read(f"{3 ** 62 * 2}/{9 * 4}"), (-1, 60, 0, 0, 0))

    def test_no_span_goes_ahead_of_too_far(self):
        self.assertNoSpan(f"{3 ** 61 * 13}/1")
        self.assertNoSpan(f"0{3 ** 61}/1")

    def test_there_and_back(self):
        rows = itertools.product((-40, 0, 3), (-9, 0, 20), (-5, 1), (-4, 0, 6), (-1, 0, 9))
        for row in rows:
            text = span_text(row)
            self.assertEqual(span_read(text), row)
            self.assertEqual(Fraction(text), number(row))
            self.assertEqual(text, f"{number(row).numerator}/{number(row).denominator}")


class Chains(unittest.TestCase):
    def test_counts(self):
        self.assertEqual(chain(ONE, FIFTH, 0), [])
        self.assertEqual(chain(ONE, FIFTH, 1), [ONE])
        self.assertEqual(chain(FIFTH, FIFTH, 2), [FIFTH, (-2, 2, 0, 0, 0)])
        self.assertEqual(chain((5, 0, 1, 0, 0), FIFTH, 3), [(5, 0, 1, 0, 0), (4, 1, 1, 0, 0), (3, 2, 1, 0, 0)])

    def test_seven_where_no_count_is_told(self):
        self.assertEqual(chain(ONE, FIFTH), [(-n, n, 0, 0, 0) for n in range(7)])
        self.assertEqual(chain(ONE, FIFTH), chain(ONE, FIFTH, 7))

    def test_sixty(self):
        found = chain(ONE, FIFTH, 60)
        self.assertEqual(len(found), 60)
        self.assertEqual(found, [power(FIFTH, n) for n in range(60)])
        self.assertEqual(len(chain(LOWEST, (1, 1, 2, 0, 2), 60)), 60)

    def test_counts_somewhat_beyond_are_not_refused(self):
        self.assertEqual(chain(ONE, FIFTH, 61), [power(FIFTH, n) for n in range(61)])
        self.assertEqual(chain(FIFTH, ONE, 65), [FIFTH] * 65)

    def test_spans_below_one_and_one_itself(self):
        self.assertEqual(chain(ONE, power(FIFTH, -1), 3), [ONE, (1, -1, 0, 0, 0), (2, -2, 0, 0, 0)])
        self.assertEqual(chain(FIFTH, ONE, 4), [FIFTH] * 4)

    def test_too_far(self):
        up = (20, 0, 0, 0, 0)
        self.assertEqual(len(chain(ONE, up, 36)), 36)
        with self.assertRaises(TooFar):
            chain(ONE, up, 37)
        for place in range(5):
            span = tuple(1 if here == place else 0 for here in range(5))
            for start, step in ((HIGHEST, span), (LOWEST, power(span, -1))):
                self.assertEqual(chain(start, step, 0), [])
                self.assertEqual(chain(start, step, 1), [start])
                with self.assertRaises(TooFar):
                    chain(start, step, 2)
                with self.assertRaises(TooFar):
                    chain(start, step)

    def test_too_far_in_the_midst_alone(self):
        with self.assertRaises(TooFar):
            chain(ONE, (0, 0, 0, 0, 31), 3)
        self.assertEqual(chain((0, 0, 0, 0, -60), (0, 0, 0, 0, 60), 3)[2], (0, 0, 0, 0, 60))

    def test_tones_alone(self):
        for tone in chain((-700, 60, 0, 0, -60), (23, -2, 0, 1, 2), 60):
            self.assertIs(is_tone(tone), True)

    def test_each_is_the_one_ahead_multiplied(self):
        found = chain((3, 1, 0, 0, 0), (-2, 0, 1, 0, 0), 20)
        for low, high in zip(found, found[1:]):
            self.assertEqual(high, times(low, (-2, 0, 1, 0, 0)))

    def test_a_new_list_each_time(self):
        for count in (0, 1, 7):
            first = chain(ONE, FIFTH, count)
            second = chain(ONE, FIFTH, count)
            self.assertIs(type(first), list)
            self.assertIsNot(first, second)
            first.append(HIGHEST)
            self.assertEqual(len(second), count)
            self.assertEqual(chain(ONE, FIFTH, count), second)


if __name__ == "__main__":
    unittest.main()
