"""Keys for commas, and commas and keys held against each other: points 2, 3, 26 and 27."""

import itertools
import unittest

from helper import Dice, heard_as, is_made, is_table_by_steps, leads_product, product
from tuningyard.errors import NoCommas, NoKeys
from tuningyard.keys import lost, values
from tuningyard.rows import ONE, power, row_of
from tuningyard.tables import table
from tuningyard.ways import held, keys_for

LONG = 10 ** 25 - 1  # a number of 25 figures
UNITS = [(0, 0, 0, 0, 1), (0, 0, 0, 1, 0), (0, 0, 1, 0, 0), (0, 1, 0, 0, 0), (1, 0, 0, 0, 0)]
COMMA = row_of(81, 80)
DIESIS = row_of(128, 125)
TWELVE = ((12, 19, 28, 34, 42), 0)
BOX = list(itertools.product(range(-2, 3), repeat=5))


def thrown_commas(start, times_over):
    """Lists of commas of each size, with small and with long numbers."""
    dice = Dice(start)
    bounds = (1, 2, 3, 9, 10 ** 6, LONG)
    return [
        [dice.row(bound) for _ in range(count)]
        for _ in range(times_over) for count in range(7) for bound in [bounds[dice.throw(0, 5)]]
    ]


class KeysFor(unittest.TestCase):
    def assertKeys(self, commas):
        """The keys have their form, and just what the commas make is lost to them."""
        found = keys_for(commas)
        steps = table(commas)
        self.assertIs(type(found), list)
        self.assertLessEqual(len(found), 6)
        for key in found:
            self.assertEqual((type(key), len(key)), (tuple, 2))
            self.assertEqual((type(key[0]), [type(entry) for entry in key[0]]), (tuple, [int] * 5))
            self.assertIs(type(key[1]), int)
            for comma in commas:
                self.assertEqual(heard_as(key, comma), 0)
        rings = [ring for row, ring in found]
        self.assertEqual(rings, [0] * (5 - len(steps)) + [ring for ring in rings if ring != 0])
        deaf = [row for row, ring in found if ring == 0]
        self.assertTrue(is_table_by_steps(deaf), deaf)
        for row, ring in found[len(deaf):]:
            self.assertGreaterEqual(ring, 2)
            self.assertEqual(leads_product(steps) % ring, 0)
            self.assertTrue(all(0 <= entry < ring for entry in row))
        self.assertEqual(lost(found), steps)
        return found

    def test_no_commas(self):
        self.assertEqual(self.assertKeys([]), [(row, 0) for row in UNITS])
        self.assertEqual(self.assertKeys([ONE] * 6), [(row, 0) for row in UNITS])

    def test_all_rows_are_made(self):
        self.assertEqual(self.assertKeys(UNITS), [])

    def test_known_ones_with_ring_nought(self):
        found = self.assertKeys([COMMA, DIESIS])
        self.assertEqual(found[:3], [((0, 0, 0, 0, 1), 0), ((0, 0, 0, 1, 0), 0), ((12, 19, 28, 0, 0), 0)])
        found = self.assertKeys([COMMA])
        self.assertEqual(found[:2], [((0, 0, 0, 0, 1), 0), ((0, 0, 0, 1, 0), 0)])
        self.assertEqual(found[2:4], [((-1, 0, 4, 0, 0), 0), ((1, 1, 0, 0, 0), 0)])

    def test_those_with_ring_nought_hear_no_comma_and_are_all_that_do(self):
        for commas in (
            [COMMA], [COMMA, DIESIS], [(2, 0, 2, 0, 0)], [(1, 1, 0, 0, 0), (0, 0, 1, 0, 2)], [(2, 1, 1, 1, 1)],
        ):
            deaf = [row for row, ring in self.assertKeys(commas) if ring == 0]
            for row in BOX:
                hears_none = all(heard_as((row, 0), comma) == 0 for comma in commas)
                self.assertEqual(is_made(deaf, row), hears_none)

    def test_rings(self):
        self.assertIn(2, [ring for row, ring in self.assertKeys([power(COMMA, 2)])])
        self.assertEqual(self.assertKeys(UNITS[:4] + [(7, 0, 0, 0, 0)])[0][1], 7)
        self.assertKeys([power(row, 2) for row in UNITS])
        self.assertKeys([power(row, n) for row, n in zip(UNITS, (2, 3, 4, 6, 12))])
        self.assertKeys([power(COMMA, 4), power(DIESIS, 6)])

    def test_thrown_commas(self):
        for commas in thrown_commas(61, 25):
            self.assertKeys(commas)

    def test_each_small_row(self):
        for commas in (
            [(2, 0, 0, 0, 0), (1, 3, 0, 0, 0)], [(2, 2, 0, 0, 0)], [(2, 1, 0, 0, 0), (0, 2, 1, 0, 0)], [COMMA],
        ):
            keys = self.assertKeys(commas)
            for row in BOX:
                self.assertEqual(is_made(table(commas), row), not any(heard_as(key, row) for key in keys))

    def test_keys_for_a_lost_table_have_this_lost_table(self):
        dice = Dice(62)
        for _ in range(20):
            for count in range(7):
                bound = (2, 9, 10 ** 6, LONG)[dice.throw(0, 3)]
                keys = [(dice.row(bound), (0, 0, 2, 6, bound)[dice.throw(0, 4)]) for _ in range(count)]
                steps = lost(keys)
                self.assertEqual(lost(self.assertKeys(steps)), steps)

    def test_there_and_back_with_what_is_told(self):
        for commas in thrown_commas(63, 5):
            keys = keys_for(commas)
            for row, ring in keys:
                self.assertKeys([row])
            self.assertEqual(keys_for(lost(keys))[:5 - len(table(commas))], keys[:5 - len(table(commas))])
            self.assertEqual(held(commas, keys)[0], "same")

    def test_seven_commas(self):
        for seven in ([COMMA] * 7, [ONE] * 7):
            with self.assertRaises(NoCommas):
                keys_for(seven)
        self.assertKeys([COMMA] * 6)


class Held(unittest.TestCase):
    def assertComma(self, commas, keys, wanted):
        found = held(commas, keys)
        self.assertIs(type(found), tuple)
        self.assertEqual(found, ("comma", wanted))
        self.assertIs(type(found[1]), int)

    def assertSame(self, commas, keys):
        found = held(commas, keys)
        self.assertIs(type(found), tuple)
        self.assertEqual((len(found), found[0]), (2, "same"))
        self.assertIs(type(found[1]), list)
        self.assertEqual(len(found[1]), len(lost(keys)))
        for row, powers in zip(lost(keys), found[1]):
            self.assertIs(type(powers), list)
            self.assertEqual([type(n) for n in powers], [int] * len(commas))
            self.assertEqual(product(commas, powers), row)

    def assertSpan(self, commas, keys):
        found = held(commas, keys)
        self.assertIs(type(found), tuple)
        self.assertEqual((len(found), found[0]), (3, "span"))
        row, key = found[1:]
        self.assertEqual((type(row), [type(entry) for entry in row]), (tuple, [int] * 5))
        self.assertEqual(values(keys, row), (0,) * len(keys))
        self.assertEqual((type(key), len(key)), (tuple, 2))
        self.assertEqual((type(key[0]), [type(entry) for entry in key[0]]), (tuple, [int] * 5))
        self.assertTrue(key[1] == 0 or key[1] >= 2)
        for comma in commas:
            self.assertEqual(heard_as(key, comma), 0)
        self.assertNotEqual(heard_as(key, row), 0)

    def test_the_first_comma_that_is_not_lost(self):
        fifth = row_of(3, 2)
        self.assertComma([fifth], [TWELVE], 0)
        self.assertComma([COMMA, fifth], [TWELVE], 1)
        self.assertComma([COMMA, DIESIS, ONE, COMMA, DIESIS, fifth], [TWELVE], 5)
        self.assertComma([COMMA, fifth, DIESIS, fifth], [TWELVE], 1)
        self.assertComma([fifth, COMMA], [TWELVE], 0)

    def test_a_comma_that_only_one_of_the_keys_hears(self):
        self.assertComma([COMMA], [TWELVE, ((1, 0, 0, 0, 0), 0)], 0)
        self.assertComma([COMMA], [((1, 0, 0, 0, 0), 0), TWELVE], 0)
        self.assertComma([ONE, COMMA], [TWELVE, ((1, 0, 0, 0, 0), 3)], 1)
        self.assertComma([ONE, COMMA], [TWELVE, ((1, 0, 0, 0, 0), 2), ((0, 0, 1, 0, 0), 2)], 1)

    def test_a_comma_goes_ahead_of_a_span(self):
        self.assertComma([(1, 0, 0, 0, 0)], [TWELVE], 0)

    def test_a_comma_below_nought(self):
        self.assertComma([(-1, 0, 0, 0, 0)], [TWELVE], 0)

    def test_the_same(self):
        self.assertSame(lost([TWELVE]), [TWELVE])
        self.assertSame([row_of(top, bottom) for top, bottom in (
            (81, 80), (128, 125), (64, 63), (225, 224), (99, 98), (56, 55))], [TWELVE])
        self.assertSame([(12, 0, 0, 0, 0)] + UNITS[:4], [((1, 0, 0, 0, 0), 12)])
        self.assertSame([], [(row, 0) for row in UNITS])
        self.assertSame([ONE], [(row, 0) for row in UNITS])
        self.assertSame(UNITS, [])
        self.assertSame(UNITS + [COMMA], [(ONE, 7)])
        self.assertEqual(held([], [(row, 0) for row in UNITS]), ("same", []))

    def test_spans(self):
        self.assertSpan([], [])
        self.assertSpan([COMMA], [TWELVE])
        self.assertSpan([], [TWELVE])
        self.assertSpan([COMMA, DIESIS], [TWELVE])
        self.assertSpan([COMMA, DIESIS], [])
        self.assertSpan(UNITS[1:], [])
        self.assertSpan(UNITS[:4], [])

    def test_spans_of_which_only_a_power_is_made(self):
        self.assertSpan([power(row, 2) for row in UNITS], [])
        self.assertSpan([power(row, 2) for row in UNITS[:4]] + UNITS[4:], [])
        self.assertSpan(UNITS[:4] + [(24, 0, 0, 0, 0)], [((1, 0, 0, 0, 0), 12)])
        self.assertSpan([power(row, 3) for row in lost([TWELVE])], [TWELVE])

    def test_thrown_ones(self):
        dice = Dice(64)
        seen = []
        for commas in thrown_commas(65, 12):
            keys = keys_for(commas)
            self.assertSame(commas, keys)
            self.assertSame(table(commas), keys)
            fewer = [key for key in keys if dice.throw(0, 2) > 0]
            if lost(fewer) == table(commas):
                self.assertSame(commas, fewer)
            else:
                self.assertSpan(commas, fewer)
            more = (keys + [(dice.row(5), (0, 2, 6)[dice.throw(0, 2)])])[-6:]
            heard = [k for k, comma in enumerate(commas) if any(heard_as(key, comma) for key in more)]
            seen.append(bool(heard))
            if heard:
                self.assertComma(commas, more, heard[0])
            else:
                self.assertEqual(held(commas, more)[0], "same" if lost(more) == table(commas) else "span")
        self.assertEqual(set(seen), {True, False})

    def test_refusals(self):
        seven = [COMMA] * 7
        for wrong in ([TWELVE] * 7, [((1, 0, 0, 0, 0), 1)], [((1, 0, 0, 0, 0), -2)], [TWELVE, ((1, 0, 0, 0, 0), -1)]):
            for commas in ([], [COMMA], [(1, 0, 0, 0, 0)], [COMMA] * 6):
                with self.assertRaises(NoKeys):
                    held(commas, wrong)
            with self.assertRaises(NoCommas):
                held(seven, wrong)
        for keys in ([], [TWELVE]):
            with self.assertRaises(NoCommas):
                held(seven, keys)
            with self.assertRaises(NoCommas):
                held([(1, 0, 0, 0, 0)] * 7, keys)


class HandedIn(unittest.TestCase):
    def test_what_is_handed_in_stays(self):
        commas = [DIESIS, COMMA]
        keys = [TWELVE, ((1, 0, 0, 0, 0), 5)]
        keys_for(commas)
        for some in (keys, keys[:1], keys_for(commas)):
            kept = list(some)
            held(commas, some)
            self.assertEqual(some, kept)
        self.assertEqual(commas, [DIESIS, COMMA])

    def test_new_lists_each_time(self):
        for commas in ([], [COMMA], list(UNITS)):
            first = keys_for(commas)
            second = keys_for(commas)
            kept = list(second)
            self.assertIsNot(first, second)
            first.append(None)
            self.assertEqual(second, kept)
            self.assertEqual(keys_for(commas), kept)

    def test_lists_of_what_is_the_same_are_the_askers_own(self):
        keys = keys_for([COMMA, DIESIS])
        first = held([COMMA, DIESIS], keys)[1]
        second = held([COMMA, DIESIS], keys)[1]
        kept = [list(powers) for powers in second]
        for powers in first:
            powers.append(99)
        first.append(None)
        self.assertEqual(second, kept)
        self.assertEqual(held([COMMA, DIESIS], keys), ("same", kept))


if __name__ == "__main__":
    unittest.main()
