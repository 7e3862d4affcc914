"""Values by a key, and the paper of commas and a row: points 2, 3, 22 and 23."""

import itertools
import unittest

from helper import Dice, heard_as, is_made, product
from tuningyard.errors import NoCommas
from tuningyard.papers import paper, value
from tuningyard.rows import ONE, power, row_of, times
from tuningyard.tables import rest, table

LONG = 10 ** 25 - 1  # a number of 25 figures
COMMA = row_of(81, 80)
DIESIS = row_of(128, 125)


class Values(unittest.TestCase):
    def test_ring_nought(self):
        key = ((12, 19, 28, 34, 42), 0)
        self.assertEqual(value(key, ONE), 0)
        self.assertEqual(value(key, (1, 0, 0, 0, 0)), 12)
        self.assertEqual(value(key, (0, 0, 0, 0, 1)), 42)
        self.assertEqual(value(key, (-1, 1, 0, 0, 0)), 7)
        self.assertEqual(value(key, (1, -1, 0, 0, 0)), -7)
        self.assertEqual(value(key, COMMA), 0)
        self.assertEqual(value(((1, 2, 3, 4, 5), 0), (5, 4, 3, 2, 1)), 35)
        self.assertIs(type(value(key, COMMA)), int)

    def test_rings(self):
        for ring in (2, 3, 7, 12, 100):
            for total in range(-2 * ring - 1, 2 * ring + 2):
                found = value(((0, 1, 0, 0, 0), ring), (5, total, 3, 0, 0))
                self.assertTrue(0 <= found < ring)
                self.assertEqual((found - total) % ring, 0)
        self.assertEqual(value(((1, 2, 3, 4, 5), 7), (5, 4, 3, 2, 1)), 0)
        self.assertEqual(value(((1, 2, 3, 4, 5), 2), (5, 4, 3, 2, 1)), 1)
        self.assertEqual(value(((1, 2, 3, 4, 5), 36), (5, 4, 3, 2, 1)), 35)

    def test_sums_below_nought(self):
        self.assertEqual(value(((1, 0, 0, 0, 0), 12), (-1, 0, 0, 0, 0)), 11)
        self.assertEqual(value(((-1, 0, 0, 0, 0), 12), (1, 0, 0, 0, 0)), 11)
        self.assertEqual(value(((-1, 0, 0, 0, 0), 12), (12, 0, 0, 0, 0)), 0)
        self.assertEqual(value(((-1, -2, -3, 0, 0), 0), (1, 1, 1, 0, 0)), -6)

    def test_long_numbers(self):
        self.assertEqual(value(((LONG, -LONG, LONG, LONG, 1), 0), (LONG, LONG, LONG, 1, -1)), LONG * LONG + LONG - 1)
        self.assertEqual(value(((LONG,) * 5, LONG), (LONG - 1,) * 5), 0)
        self.assertEqual(value(((1, 1, 1, 1, 1), LONG), (-1, 0, 0, 0, 0)), LONG - 1)

    def test_thrown_ones(self):
        dice = Dice(22)
        for bound in (3, 100, LONG):
            for ring in (0, 2, 5, LONG):
                key = (dice.row(bound), ring)
                row = dice.row(bound)
                self.assertEqual(value(key, row), heard_as(key, row))


class Papers(unittest.TestCase):
    def assertPaper(self, commas, row):
        """The paper shows what it says; gives back whether the row is made."""
        found = paper(commas, row)
        self.assertIs(type(found), tuple)
        self.assertEqual(len(found), 2)
        self.assertIn(found[0], ("made", "told"))
        if found[0] == "made":
            self.assertIs(type(found[1]), list)
            self.assertEqual([type(n) for n in found[1]], [int] * len(commas))
            self.assertEqual(product(commas, found[1]), row)
            return True
        key = found[1]
        self.assertEqual((type(key), len(key)), (tuple, 2))
        self.assertEqual((type(key[0]), [type(entry) for entry in key[0]]), (tuple, [int] * 5))
        self.assertIs(type(key[1]), int)
        self.assertTrue(key[1] == 0 or key[1] >= 2)
        for comma in commas:
            self.assertEqual(heard_as(key, comma), 0)
        self.assertNotEqual(heard_as(key, row), 0)
        return False

    def assertMade(self, commas, row):
        self.assertTrue(self.assertPaper(commas, row))

    def assertTold(self, commas, row):
        self.assertFalse(self.assertPaper(commas, row))

    def test_rows_that_are_made(self):
        self.assertMade([COMMA], COMMA)
        self.assertMade([COMMA], power(COMMA, -7))
        self.assertMade([COMMA, DIESIS], (-19, 12, 0, 0, 0))
        self.assertMade([COMMA, COMMA, ONE], power(COMMA, 3))
        self.assertMade([(4, 0, 0, 0, 0), (6, 0, 0, 0, 0)], (2, 0, 0, 0, 0))
        self.assertMade([(6, 0, 0, 0, 0), (10, 0, 0, 0, 0), (15, 0, 0, 0, 0)], (-1, 0, 0, 0, 0))

    def test_one_is_always_made(self):
        for commas in ([], [ONE], [COMMA], [COMMA, DIESIS], [COMMA] * 6):
            self.assertMade(commas, ONE)
        self.assertEqual(paper([], ONE), ("made", []))

    def test_rows_that_are_not_made(self):
        self.assertTold([COMMA], DIESIS)
        self.assertTold([COMMA, DIESIS], row_of(5, 4))
        self.assertTold([COMMA, DIESIS], row_of(2, 1))
        self.assertTold([ONE], COMMA)

    def test_no_commas(self):
        for row in ((1, 0, 0, 0, 0), (0, -1, 0, 0, 0), (0, 0, 1, 0, 0), (0, 0, 0, -2, 0), (0, 0, 0, 0, 3), COMMA):
            self.assertTold([], row)

    def test_rows_of_which_a_power_is_made_but_not_they_themselves(self):
        for n in (2, 3, 4, 6, 35):
            self.assertTold([power(COMMA, n)], COMMA)
            self.assertMade([power(COMMA, n)], power(COMMA, n))
        self.assertTold([power(COMMA, 2), power(DIESIS, 2)], times(COMMA, DIESIS))
        self.assertTold([times(COMMA, DIESIS), times(COMMA, power(DIESIS, -1))], COMMA)
        self.assertMade([times(COMMA, DIESIS), times(COMMA, power(DIESIS, -1))], power(COMMA, 2))
        self.assertTold([(4, 0, 0, 0, 0), (6, 0, 0, 0, 0)], (3, 0, 0, 0, 0))

    def test_each_small_row(self):
        for commas in (
            [(2, 0, 0, 0, 0), (1, 3, 0, 0, 0)], [(2, 2, 2, 0, 0), (0, 4, 0, 0, 0)], [(1, 1, 1, 1, 1)],
            [(2, 0, 0, 0, 0), (0, 2, 0, 0, 0), (0, 0, 2, 0, 0), (0, 0, 0, 2, 0), (0, 0, 0, 0, 2)],
            [(2, 1, 0, 0, 0), (0, 2, 1, 0, 0), (0, 0, 2, 1, 0), (0, 0, 0, 2, 1), (1, 0, 0, 0, 2)],
        ):
            steps = table(commas)
            for row in itertools.product((-1, 0, 1, 2), repeat=5):
                self.assertEqual(self.assertPaper(commas, row), is_made(steps, row))

    def test_thrown_rows(self):
        dice = Dice(23)
        for _ in range(40):
            for count in range(7):
                bound = (1, 2, 9, 10 ** 6, LONG)[dice.throw(0, 4)]
                commas = [dice.row(bound) for _ in range(count)]
                self.assertMade(commas, product(commas, [dice.throw(-9, 9) for _ in commas]))
                row = dice.row(bound)
                self.assertEqual(self.assertPaper(commas, row), rest(commas, row) == ONE)

    def test_long_numbers(self):
        self.assertMade([(LONG, 0, 0, 0, 0), (LONG - 1, 0, 0, 0, 0)], (LONG, 0, 0, 0, 0))
        self.assertMade([(LONG, 0, 0, 0, 0), (LONG - 1, 0, 0, 0, 0)], (1, 0, 0, 0, 0))
        self.assertTold([(LONG, 0, 0, 0, 0)], (LONG - 1, 0, 0, 0, 0))
        self.assertTold([(LONG, 1, 0, 0, 0)], (LONG, 0, 0, 0, 0))

    def test_seven_commas(self):
        for seven in ([COMMA] * 7, [ONE] * 7):
            for row in (ONE, COMMA, DIESIS):
                with self.assertRaises(NoCommas):
                    paper(seven, row)
        self.assertMade([COMMA] * 6, COMMA)


class HandedIn(unittest.TestCase):
    def test_what_is_handed_in_stays(self):
        commas = [DIESIS, COMMA]
        paper(commas, (-19, 12, 0, 0, 0))
        paper(commas, (1, 0, 0, 0, 0))
        self.assertEqual(commas, [DIESIS, COMMA])

    def test_new_lists_each_time(self):
        for commas, row in (([], ONE), ([COMMA, DIESIS], ONE), ([COMMA, DIESIS], COMMA)):
            first = paper(commas, row)[1]
            second = paper(commas, row)[1]
            kept = list(second)
            self.assertIsNot(first, second)
            first.append(99)
            self.assertEqual(second, kept)
            self.assertEqual(paper(commas, row), ("made", kept))


if __name__ == "__main__":
    unittest.main()
