"""Keys: the values of a row, and the lost table: points 2, 22, 24 and 25."""

import itertools
import unittest

from helper import Dice, heard_as, is_made, is_table_by_steps, leads_product
from tuningyard.errors import NoKeys
from tuningyard.keys import lost, values
from tuningyard.rows import ONE, power, row_of
from tuningyard.ways import keys_for

LONG = 10 ** 25 - 1  # a number of 25 figures
UNITS = [(0, 0, 0, 0, 1), (0, 0, 0, 1, 0), (0, 0, 1, 0, 0), (0, 1, 0, 0, 0), (1, 0, 0, 0, 0)]
TWELVE = ((12, 19, 28, 34, 42), 0)
BOX = list(itertools.product(range(-2, 3), repeat=5))


class Values(unittest.TestCase):
    def test_one_by_each_key_in_their_order(self):
        keys = [TWELVE, ((1, 0, 0, 0, 0), 0), ((0, 1, 0, 0, 0), 5), ((1, 1, 1, 1, 1), 2)]
        found = values(keys, (-1, -2, 3, 0, 0))
        self.assertIs(type(found), tuple)
        self.assertEqual(found, (34, -1, 3, 0))
        self.assertEqual(values(keys[::-1], (-1, -2, 3, 0, 0)), (0, 3, -1, 34))

    def test_no_keys_and_one(self):
        self.assertEqual(values([], (1, 2, 3, 4, 5)), ())
        self.assertEqual(values([TWELVE], row_of(3, 2)), (7,))

    def test_alike_keys(self):
        self.assertEqual(values([TWELVE] * 6, row_of(3, 2)), (7,) * 6)

    def test_thrown_ones(self):
        dice = Dice(24)
        for count in range(7):
            for bound in (5, LONG):
                keys = [(dice.row(bound), (0, 2, 3, LONG)[dice.throw(0, 3)]) for _ in range(count)]
                row = dice.row(bound)
                self.assertEqual(values(keys, row), tuple(heard_as(key, row) for key in keys))


class Refusing(unittest.TestCase):
    def assertNoKeys(self, keys):
        for row in (ONE, (1, 2, 3, 4, 5)):
            with self.assertRaises(NoKeys):
                values(keys, row)
        with self.assertRaises(NoKeys):
            lost(keys)

    def test_seven_keys(self):
        self.assertNoKeys([TWELVE] * 7)
        self.assertNoKeys([(ONE, 0)] * 7)
        self.assertNoKeys([TWELVE] * 8)

    def test_rings_that_are_none(self):
        for ring in (1, -1, -2, -12, -LONG):
            wrong = ((12, 19, 28, 34, 42), ring)
            self.assertNoKeys([wrong])
            self.assertNoKeys([TWELVE, wrong])
            self.assertNoKeys([wrong, TWELVE])
            self.assertNoKeys([TWELVE] * 5 + [wrong])
            self.assertNoKeys([(ONE, ring)])

    def test_the_least_rings(self):
        for ring in (0, 2):
            self.assertEqual(len(values([((1, 0, 0, 0, 0), ring)] * 6, ONE)), 6)
            self.assertIs(type(lost([((1, 0, 0, 0, 0), ring)] * 6)), list)


class Lost(unittest.TestCase):
    def assertLost(self, keys, wanted=None):
        """The lost table has its form, and among small rows it makes just the lost ones."""
        found = lost(keys)
        self.assertIs(type(found), list)
        self.assertTrue(is_table_by_steps(found), found)
        for row in found:
            self.assertIs(type(row), tuple)
            self.assertEqual([type(entry) for entry in row], [int] * 5)
            self.assertEqual(values(keys, row), (0,) * len(keys))
        for row in BOX:
            self.assertEqual(is_made(found, row), all(heard_as(key, row) == 0 for key in keys), (keys, row))
        if wanted is not None:
            self.assertEqual(found, wanted)

    def test_no_keys(self):
        self.assertLost([], UNITS)

    def test_ring_nought(self):
        self.assertLost([TWELVE], [(-13, 6, 0, 0, 1), (-6, 2, 0, 1, 0), (-15, 8, 1, 0, 0), (-19, 12, 0, 0, 0)])
        self.assertLost([((1, 0, 0, 0, 0), 0)], UNITS[:4])
        self.assertLost([((-1, 0, 0, 0, 0), 0)], UNITS[:4])
        self.assertLost([((0, 0, 0, 0, 7), 0)], UNITS[1:])
        self.assertLost([((1, 1, 0, 0, 0), 0)], UNITS[:3] + [(-1, 1, 0, 0, 0)])
        self.assertLost([((2, 3, 0, 0, 0), 0)], UNITS[:3] + [(-3, 2, 0, 0, 0)])
        self.assertLost([((4, 6, 0, 0, 0), 0)], UNITS[:3] + [(-3, 2, 0, 0, 0)])

    def test_several_with_ring_nought(self):
        self.assertLost([(row, 0) for row in UNITS], [])
        self.assertLost([(row, 0) for row in UNITS[1:]], [UNITS[0]])
        self.assertLost([TWELVE, ((7, 11, 16, 20, 24), 0)])
        self.assertLost([TWELVE, ((7, 11, 16, 20, 24), 0), ((5, 8, 12, 14, 17), 0)])

    def test_rings(self):
        self.assertLost([((1, 0, 0, 0, 0), 12)], UNITS[:4] + [(12, 0, 0, 0, 0)])
        self.assertLost([((5, 0, 0, 0, 0), 12)], UNITS[:4] + [(12, 0, 0, 0, 0)])
        self.assertLost([((8, 0, 0, 0, 0), 12)], UNITS[:4] + [(3, 0, 0, 0, 0)])
        self.assertLost([((-8, 24, 0, 0, 0), 12)], UNITS[:4] + [(3, 0, 0, 0, 0)])
        self.assertLost([((1, 0, 0, 0, 1), 2)], [(1, 0, 0, 0, 1)] + UNITS[1:4] + [(2, 0, 0, 0, 0)])
        self.assertLost([((12, 24, 36, 0, -12), 12)], UNITS)
        self.assertLost([(row, 2) for row in UNITS], [power(row, 2) for row in UNITS])
        self.assertLost([(row, 2) for row in UNITS] + [(UNITS[0], 3)], [power(UNITS[0], 6)] + [
            power(row, 2) for row in UNITS[1:]])

    def test_both(self):
        self.assertLost([((1, 0, 0, 0, 0), 0), ((0, 1, 0, 0, 0), 3)], UNITS[:3] + [(0, 3, 0, 0, 0)])
        self.assertLost([((0, 1, 0, 0, 0), 3), ((1, 0, 0, 0, 0), 0)], UNITS[:3] + [(0, 3, 0, 0, 0)])
        self.assertLost([((1, 1, 0, 0, 0), 0), ((1, 0, 0, 0, 0), 2)], UNITS[:3] + [(-2, 2, 0, 0, 0)])
        self.assertLost([TWELVE, ((1, 1, 1, 1, 1), 3), ((0, 1, 2, 0, 1), 4)])

    def test_keys_that_hear_nothing(self):
        self.assertLost([(ONE, 0)], UNITS)
        self.assertLost([(ONE, 5)] * 6, UNITS)

    def test_alike_keys(self):
        self.assertLost([TWELVE] * 6, lost([TWELVE]))
        self.assertLost([((1, 2, 3, 4, 5), 6)] * 3, lost([((1, 2, 3, 4, 5), 6)]))
        self.assertLost([TWELVE, ((-12, -19, -28, -34, -42), 0)], lost([TWELVE]))
        self.assertLost([((1, 0, 0, 0, 0), 4), ((1, 0, 0, 0, 0), 6)], lost([((1, 0, 0, 0, 0), 12)]))

    def test_thrown_keys(self):
        dice = Dice(26)
        for _ in range(4):
            for count in range(1, 7):
                rings = [(0, 2, 3, 4, 6, 9)[dice.throw(0, 5)] for _ in range(count)]
                self.assertLost([(dice.row(3), ring) for ring in rings])
                self.assertLost([(dice.row(3), ring or 2) for ring in rings])

    def test_the_order_of_keys_is_no_matter(self):
        dice = Dice(27)
        for count in range(2, 7):
            keys = [(dice.row(40), (0, 2, 12, 30)[dice.throw(0, 3)]) for _ in range(count)]
            for some in itertools.islice(itertools.permutations(keys), 0, None, 31):
                self.assertEqual(lost(list(some)), lost(keys))

    def test_how_many_sounds_there_are(self):
        # With rings alone the leads' product tells how many unlike values there are.
        for keys in (
            [((1, 2, 3, 4, 5), 6)], [((2, 4, 2, 0, 4), 6)], [((1, 0, 0, 0, 0), 4), ((0, 2, 0, 0, 0), 4)],
            [((1, 1, 0, 0, 0), 2), ((1, 0, 1, 0, 0), 3), ((1, 0, 0, 1, 0), 4)],
        ):
            heard = {values(keys, row) for row in itertools.product(range(6), range(4), range(3), range(4), range(3))}
            self.assertEqual(leads_product(lost(keys)), len(heard))

    def test_long_numbers(self):
        dice = Dice(28)
        for count in range(1, 7):
            for rings in ((0,), (0, 2, LONG), (LONG, LONG - 1, 10 ** 24)):
                keys = [(dice.row(LONG), rings[dice.throw(0, len(rings) - 1)]) for _ in range(count)]
                found = lost(keys)
                self.assertTrue(is_table_by_steps(found))
                for row in found:
                    self.assertEqual(values(keys, row), (0,) * count)
                self.assertEqual(len(found), 5 - min(5, sum(key[1] == 0 for key in keys)))
                self.assertEqual(lost(keys_for(found)), found)


class HandedIn(unittest.TestCase):
    def test_what_is_handed_in_stays(self):
        keys = [TWELVE, ((1, 0, 0, 0, 0), 5)]
        kept = list(keys)
        found = lost(keys)
        values(keys, (1, 2, 3, 4, 5))
        self.assertEqual(keys, kept)
        keys.append(((0, 1, 0, 0, 0), 0))
        self.assertEqual(found, lost(kept))

    def test_new_lists_each_time(self):
        for keys in ([], [(ONE, 0)], [TWELVE], [(row, 0) for row in UNITS]):
            first = lost(keys)
            second = lost(keys)
            kept = list(second)
            self.assertIsNot(first, second)
            first.append(None)
            self.assertEqual(second, kept)
            self.assertEqual(lost(keys), kept)


if __name__ == "__main__":
    unittest.main()
