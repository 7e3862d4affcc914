"""Lengths: points 2 and 30."""

import itertools
import unittest
from fractions import Fraction

from helper import Dice
from tuningyard.errors import NoLength
from tuningyard.lengths import length_read, length_text, summed


class Case(unittest.TestCase):
    def assertPair(self, found, wanted):
        self.assertEqual((type(found), [type(entry) for entry in found]), (tuple, [int, int]))
        self.assertEqual(found, wanted)


class Reading(Case):
    def test_in_lowest_terms(self):
        for text, wanted in (
            ("1/1", (1, 1)), ("1/4", (1, 4)), ("3/4", (3, 4)), ("7/2", (7, 2)), ("12/1", (12, 1)), ("10/9", (10, 9)),
        ):
            self.assertPair(length_read(text), wanted)

    def test_not_in_lowest_terms(self):
        for text, wanted in (
            ("2/2", (1, 1)), ("2/8", (1, 4)), ("6/8", (3, 4)), ("9999/9999", (1, 1)), ("5000/10", (500, 1)),
            ("10/5000", (1, 500)), ("4/2", (2, 1)), ("3333/9999", (1, 3)), ("1001/77", (13, 1)), ("26/39", (2, 3)),
        ):
            self.assertPair(length_read(text), wanted)

    def test_edges(self):
        for text, wanted in (
            ("9999/1", (9999, 1)), ("1/9999", (1, 9999)), ("9999/9998", (9999, 9998)), ("1000/1001", (1000, 1001)),
        ):
            self.assertPair(length_read(text), wanted)

    def test_all_small_ones(self):
        for top, bottom in itertools.product(range(1, 31), range(1, 31)):
            wanted = Fraction(top, bottom)
            self.assertPair(length_read(f"{top}/{bottom}"), (wanted.numerator, wanted.denominator))

    def test_thrown_ones(self):
        dice = Dice(81)
        for _ in range(300):
            top = dice.throw(1, 9999)
            bottom = dice.throw(1, 9999)
            wanted = Fraction(top, bottom)
            self.assertPair(length_read(f"{top}/{bottom}"), (wanted.numerator, wanted.denominator))

    def test_numbers_that_are_none(self):
        for part in (
            "", "0", "00", "01", "0001", "00001", "10000", "99999", "-1", "+1", "1.0", "1_0", "1e1", "x", "0x1", "1 ",
            " 1", "R", "10000000000", "1" * 5000, "~", "#", "1,1", "\u0661", "\u00b2", "1\n", "\n1",
        ):
            for text in (f"{part}/1", f"1/{part}", f"{part}/{part}", f"{part}/4", f"3/{part}"):
                with self.assertRaises(NoLength, msg=repr(text[:20])):
                    length_read(text)

    def test_strokes(self):
        for text in (
            "", "/", "//", "1", "12", "1/", "/1", "1//1", "1/1/1", "/1/1", "1/1/", "1:1", "1\\1", "1|1", "1 / 1",
            "1 /1", "1/ 1", " 1/1", "1/1 ", " ", "1/1 1/1", "C.0=1/1", "1/1:", "(1/1)", "/" * 20000,
        ):
            with self.assertRaises(NoLength, msg=repr(text[:20])):
                length_read(text)


class Writing(Case):
    def test_known_ones(self):
        for length, wanted in (((1, 1), "1/1"), ((3, 4), "3/4"), ((9999, 1), "9999/1"), ((1, 9999), "1/9999")):
            self.assertEqual(length_text(length), wanted)
            self.assertIs(type(length_text(length)), str)

    def test_there_and_back(self):
        for top, bottom in itertools.product((1, 2, 3, 10, 77, 9998, 9999), repeat=2):
            length = length_read(f"{top}/{bottom}")
            self.assertPair(length_read(length_text(length)), length)
            if Fraction(top, bottom).numerator == top:
                self.assertEqual(length_text(length), f"{top}/{bottom}")


class Summing(Case):
    def assertSum(self, lengths):
        wanted = sum((Fraction(top, bottom) for top, bottom in lengths), Fraction(0))
        for order in (lengths, lengths[::-1], lengths[1::2] + lengths[::2], sorted(lengths)):
            self.assertPair(summed(order), (wanted.numerator, wanted.denominator))

    def test_none(self):
        self.assertPair(summed([]), (0, 1))

    def test_one(self):
        for length in ((1, 1), (3, 4), (9999, 1), (1, 9999), (9999, 9998)):
            self.assertPair(summed([length]), length)

    def test_known_ones(self):
        self.assertPair(summed([(1, 2), (1, 4)]), (3, 4))
        self.assertPair(summed([(1, 3), (1, 6)]), (1, 2))
        self.assertPair(summed([(1, 2), (1, 2)]), (1, 1))
        self.assertPair(summed([(3, 2), (5, 2)]), (4, 1))
        self.assertPair(summed([(1, 3), (1, 3), (1, 3)]), (1, 1))
        self.assertPair(summed([(9999, 1), (9999, 1)]), (19998, 1))

    def test_sixty(self):
        self.assertPair(summed([(1, 4)] * 60), (15, 1))
        self.assertPair(summed([(9999, 1)] * 60), (9999 * 60, 1))
        self.assertSum([(1, bottom) for bottom in range(9999, 9939, -1)])
        self.assertSum([(1, bottom) for bottom in range(1, 61)])

    def test_somewhat_more(self):
        self.assertPair(summed([(1, 4)] * 61), (61, 4))

    def test_thrown_ones(self):
        dice = Dice(82)
        for count in range(1, 61):
            lengths = []
            for _ in range(count):
                part = Fraction(dice.throw(1, 9999), dice.throw(1, 9999))
                lengths.append((part.numerator, part.denominator))
            self.assertSum(lengths)

    def test_what_is_handed_in_stays(self):
        lengths = [(1, 2), (1, 4), (3, 8)]
        summed(lengths)
        self.assertEqual(lengths, [(1, 2), (1, 4), (3, 8)])


if __name__ == "__main__":
    unittest.main()
