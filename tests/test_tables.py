"""Commas, tables by steps and rests: points 2, 4, 19, 20 and 21."""

import itertools
import unittest

from helper import Dice, is_made, is_table_by_steps, lead, left_by, product
from tuningyard.errors import NoCommas
from tuningyard.keys import lost
from tuningyard.rows import ONE, over, power, row_of, times
from tuningyard.tables import rest, table, table_powers
from tuningyard.ways import keys_for

LONG = 10 ** 25 - 1  # a number of 25 figures
UNITS = [(0, 0, 0, 0, 1), (0, 0, 0, 1, 0), (0, 0, 1, 0, 0), (0, 1, 0, 0, 0), (1, 0, 0, 0, 0)]
COMMA = row_of(81, 80)
DIESIS = row_of(128, 125)


def thrown_commas(start, times_over):
    """Lists of commas of each size, with small and with long numbers, some alike, some ONE, some made by others."""
    dice = Dice(start)
    lists = []
    for _ in range(times_over):
        for count in range(7):
            bound = (1, 2, 3, 9, 100, 10 ** 9, LONG)[dice.throw(0, 6)]
            commas = [dice.row(bound) for _ in range(count)]
            for place in range(count):
                kind = dice.throw(0, 7)
                if kind == 0:
                    commas[place] = ONE
                elif kind == 1:
                    commas[place] = commas[0]
                elif kind == 2 and bound < LONG:
                    commas[place] = product(commas, [dice.throw(-3, 3) for _ in commas])
            lists.append(commas)
    return lists


class TableCase(unittest.TestCase):
    def assertTable(self, commas, wanted=None):
        """The table has its form, makes each comma, and is made by them by the powers told."""
        found = table(commas)
        self.assertIs(type(found), list)
        self.assertTrue(is_table_by_steps(found), found)
        for row in found:
            self.assertIs(type(row), tuple)
            self.assertEqual([type(entry) for entry in row], [int] * 5)
        for comma in commas:
            self.assertTrue(is_made(found, comma), comma)
        powers = table_powers(commas)
        self.assertIs(type(powers), list)
        self.assertEqual(len(powers), len(found))
        for row, each in zip(found, powers):
            self.assertIs(type(each), list)
            self.assertEqual([type(n) for n in each], [int] * len(commas))
            self.assertEqual(product(commas, each), row)
        if wanted is not None:
            self.assertEqual(found, wanted)


class Tables(TableCase):
    def test_no_commas(self):
        self.assertTable([], [])
        self.assertEqual(table_powers([]), [])

    def test_one_comma(self):
        self.assertTable([COMMA], [power(COMMA, -1)])
        self.assertTable([power(COMMA, -1)], [power(COMMA, -1)])
        self.assertTable([(3, 0, 0, 0, 0)], [(3, 0, 0, 0, 0)])
        self.assertTable([(-3, 0, 0, 0, 0)], [(3, 0, 0, 0, 0)])
        self.assertTable([(5, -7, 0, 0, 2)], [(5, -7, 0, 0, 2)])
        self.assertTable([(5, -7, 0, 0, -2)], [(-5, 7, 0, 0, 2)])

    def test_one_itself(self):
        for count in range(1, 7):
            self.assertTable([ONE] * count, [])
        self.assertTable([ONE, COMMA, ONE], [power(COMMA, -1)])

    def test_alike_commas(self):
        self.assertTable([COMMA] * 6, [power(COMMA, -1)])
        self.assertTable([COMMA, DIESIS, COMMA], table([COMMA, DIESIS]))
        self.assertTable([power(COMMA, 4), power(COMMA, 6)], [power(COMMA, -2)])
        self.assertTable([power(COMMA, 6), power(COMMA, 10), power(COMMA, 15)], [power(COMMA, -1)])

    def test_two_commas(self):
        self.assertTable([COMMA, DIESIS], [(-15, 8, 1, 0, 0), (-19, 12, 0, 0, 0)])
        self.assertTable([DIESIS, COMMA], [(-15, 8, 1, 0, 0), (-19, 12, 0, 0, 0)])

    def test_powers_whose_product_is_one(self):
        one = (2, 4, 6, 0, 0)
        other = (3, 6, 9, 0, 0)
        self.assertTable([one, other], [(1, 2, 3, 0, 0)])
        self.assertTable([COMMA, DIESIS, over(COMMA, DIESIS)], table([COMMA, DIESIS]))

    def test_each_prime_by_itself(self):
        self.assertTable(UNITS, UNITS)
        self.assertTable(UNITS[::-1], UNITS)
        self.assertTable([power(row, -1) for row in UNITS], UNITS)

    def test_rows_ahead_are_below_the_lead(self):
        self.assertTable([(7, 0, 0, 0, 1), (5, 0, 0, 0, 0)], [(2, 0, 0, 0, 1), (5, 0, 0, 0, 0)])
        self.assertTable([(-7, 0, 0, 0, 1), (5, 0, 0, 0, 0)], [(3, 0, 0, 0, 1), (5, 0, 0, 0, 0)])
        self.assertTable([(10, 0, 0, 0, 1), (5, 0, 0, 0, 0)], [(0, 0, 0, 0, 1), (5, 0, 0, 0, 0)])
        self.assertTable(
            [(1, 1, 1, 1, 2), (1, 1, 1, 3, 0), (1, 1, 4, 0, 0), (1, 5, 0, 0, 0), (6, 0, 0, 0, 0)],
            [(1, 1, 1, 1, 2), (1, 1, 1, 3, 0), (1, 1, 4, 0, 0), (1, 5, 0, 0, 0), (6, 0, 0, 0, 0)],
        )

    def test_places_without_a_lead_may_hold_any_number(self):
        self.assertTable([(900, -900, 0, 0, 1), (-900, 900, 1, 0, 0)], [(900, -900, 0, 0, 1), (-900, 900, 1, 0, 0)])

    def test_six_commas(self):
        six = [row_of(top, bottom) for top, bottom in (
            (81, 80), (128, 125), (64, 63), (225, 224), (99, 98), (121, 120))]
        self.assertTable(six)
        self.assertTable(six[:4], [(-6, 2, 0, 1, 0), (-15, 8, 1, 0, 0), (-19, 12, 0, 0, 0)])

    def test_seven_commas(self):
        for seven in ([COMMA] * 7, [ONE] * 7, UNITS + [ONE, ONE], [COMMA] * 8):
            with self.assertRaises(NoCommas):
                table(seven)
            with self.assertRaises(NoCommas):
                table_powers(seven)
            with self.assertRaises(NoCommas):
                rest(seven, ONE)

    def test_thrown_commas(self):
        for commas in thrown_commas(20, 30):
            self.assertTable(commas)

    def test_long_numbers(self):
        self.assertTable([(LONG, -LONG, LONG, -LONG, LONG)], [(LONG, -LONG, LONG, -LONG, LONG)])
        dice = Dice(25)
        for count in range(1, 7):
            self.assertTable([dice.row(LONG) for _ in range(count)])

    def test_the_same_rows_have_the_same_table(self):
        dice = Dice(4)
        for commas in thrown_commas(19, 8):
            steps = table(commas)
            self.assertEqual(table(steps), steps)
            self.assertEqual(table(commas[::-1]), steps)
            self.assertEqual(table([power(comma, -1) for comma in commas]), steps)
            others = list(commas)
            for _ in range(10 if len(commas) > 1 else 0):
                one = dice.throw(0, len(others) - 1)
                other = (one + dice.throw(1, len(others) - 1)) % len(others)
                others[one] = times(others[one], power(others[other], dice.throw(-2, 2)))
            self.assertEqual(table(others), steps)

    def test_other_rows_have_another_table(self):
        self.assertNotEqual(table([COMMA]), table([power(COMMA, 2)]))
        self.assertNotEqual(table([COMMA]), table([DIESIS]))
        self.assertNotEqual(table([COMMA]), table([COMMA, DIESIS]))

    def test_told_tables_of_any_size_are_handed_in_again(self):
        dice = Dice(77)
        for count in (2, 3, 4):
            steps = table([dice.row(LONG) for _ in range(count)])
            self.assertGreater(max(abs(entry) for row in steps for entry in row), LONG)
            self.assertTable(steps, steps)
            for row in [row for row, ring in keys_for(steps)] + lost([(row, 0) for row in steps]):
                self.assertTable([row])
                self.assertTable(steps + [row])
                left = rest(steps, row)
                self.assertEqual(rest(steps, left), left)


class Rests(unittest.TestCase):
    def assertRest(self, commas, row):
        found = rest(commas, row)
        self.assertIs(type(found), tuple)
        self.assertEqual([type(entry) for entry in found], [int] * 5)
        steps = table(commas)
        for step in steps:
            self.assertTrue(0 <= found[lead(step)] < step[lead(step)])
        self.assertTrue(is_made(steps, over(row, found)))
        self.assertEqual(found, left_by(steps, row))

    def test_no_commas(self):
        for row in (ONE, COMMA, (LONG, -LONG, 0, 1, -1)):
            self.assertEqual(rest([], row), row)
            self.assertEqual(rest([ONE, ONE], row), row)

    def test_known_ones(self):
        self.assertEqual(rest([(12, 0, 0, 0, 0)], (31, 1, 2, 3, 4)), (7, 1, 2, 3, 4))
        self.assertEqual(rest([(12, 0, 0, 0, 0)], (-31, -1, 2, 3, 4)), (5, -1, 2, 3, 4))
        self.assertEqual(rest([(12, 0, 0, 0, 0)], (12, 0, 0, 0, 0)), ONE)
        self.assertEqual(rest([(12, 0, 0, 0, 0)], (-1, 0, 0, 0, 0)), (11, 0, 0, 0, 0))
        self.assertEqual(rest([COMMA], row_of(5, 4)), row_of(81, 64))
        self.assertEqual(rest([COMMA], row_of(81, 64)), row_of(81, 64))
        self.assertEqual(rest([COMMA], COMMA), ONE)
        self.assertEqual(rest(UNITS, (5, -6, 7, LONG, -LONG)), ONE)

    def test_one_alone_where_the_row_is_made(self):
        for commas in thrown_commas(21, 6):
            dice = Dice(len(commas))
            self.assertEqual(rest(commas, ONE), ONE)
            self.assertEqual(rest(commas, product(commas, [dice.throw(-9, 9) for _ in commas])), ONE)

    def test_thrown_rows(self):
        dice = Dice(2)
        for commas in thrown_commas(22, 12):
            for bound in (1, 50, LONG):
                self.assertRest(commas, dice.row(bound))

    def test_numbers_below_nought(self):
        for row in ((-1, -1, -1, -1, -1), (-LONG, -LONG, -LONG, -LONG, -LONG), (0, 0, 0, 0, -1), (-7, 0, 3, 0, -8)):
            self.assertRest([COMMA, DIESIS], row)
            self.assertRest([(1, 1, 1, 1, 2), (1, 1, 1, 3, 0), (1, 1, 4, 0, 0), (1, 5, 0, 0, 0), (6, 0, 0, 0, 0)], row)

    def test_the_same_rest_just_where_one_over_the_other_is_made(self):
        commas = [(2, 2, 0, 0, 0), (0, 3, 0, 0, 0), (1, 0, 2, 0, 0)]
        steps = table(commas)
        rows = list(itertools.product(range(-2, 3), range(-2, 3), range(-1, 3), (0,), (0, 1)))
        rests = {row: rest(commas, row) for row in rows}
        for one, other in itertools.product(rows[::3], rows[::2]):
            self.assertEqual(rests[one] == rests[other], is_made(steps, over(one, other)))

    def test_a_rest_of_a_rest(self):
        dice = Dice(6)
        for commas in thrown_commas(23, 4):
            row = dice.row(LONG)
            self.assertEqual(rest(commas, rest(commas, row)), rest(commas, row))


class HandedIn(unittest.TestCase):
    def test_what_is_handed_in_stays(self):
        commas = [DIESIS, COMMA, ONE, COMMA]
        kept = list(commas)
        steps = table(commas)
        powers = table_powers(commas)
        rest(commas, (1, 2, 3, 4, 5))
        self.assertEqual(commas, kept)
        commas.append(UNITS[0])
        self.assertEqual(steps, table(kept))
        self.assertEqual(powers, table_powers(kept))

    def test_new_lists_each_time(self):
        for commas in ([], [COMMA], list(UNITS), [COMMA, DIESIS]):
            for ask in (table, table_powers):
                first = ask(commas)
                second = ask(commas)
                kept = [each for each in second]
                self.assertIsNot(first, second)
                self.assertIsNot(first, commas)
                first.append(None)
                self.assertEqual(second, kept)
                self.assertEqual(ask(commas), kept)

    def test_lists_within_lists_are_the_askers_own(self):
        first = table_powers([COMMA, DIESIS])
        second = table_powers([COMMA, DIESIS])
        kept = [list(each) for each in second]
        for each in first:
            each.append(99)
        self.assertIsNot(first[0], first[1])
        self.assertEqual(second, kept)
        self.assertEqual(table_powers([COMMA, DIESIS]), kept)


if __name__ == "__main__":
    unittest.main()
