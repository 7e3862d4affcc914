"""Tunings, when two are the same, and what tells two apart: points 2, 3, 28 and 29."""

import itertools
import unittest

from helper import HIGHEST, LOWEST, Dice, heard_as, is_made, is_table_by_steps, left_by
from tuningyard.errors import NoBoard, NoCommas, NoKeys
from tuningyard.keys import lost
from tuningyard.rows import ONE, is_tone, power, row_of, times
from tuningyard.tables import rest, table
from tuningyard.tunings import Board, CommaTuning, KeyTuning, Tuning, apart, same_tuning
from tuningyard.ways import keys_for

LONG = 10 ** 25 - 1  # a number of 25 figures
UNITS = [(0, 0, 0, 0, 1), (0, 0, 0, 1, 0), (0, 0, 1, 0, 0), (0, 1, 0, 0, 0), (1, 0, 0, 0, 0)]
OCTAVE = (1, 0, 0, 0, 0)
FIFTH = row_of(3, 2)
COMMA = row_of(81, 80)
DIESIS = row_of(128, 125)
TWELVE = (12, 19, 28, 34, 42)
NINETEEN = (19, 30, 44, 53, 66)
TONES = [ONE, OCTAVE, FIFTH, COMMA, DIESIS, row_of(7, 4), row_of(11, 8), HIGHEST, LOWEST]
NO_TONES = [(701, 0, 0, 0, 0), (0, 61, 0, 0, 0), (-5000, 3, -61, 900, 10 ** 9), (LONG, -LONG, LONG, 1, -LONG)]
ROWS = TONES + NO_TONES


class Case(unittest.TestCase):
    def assertRow(self, found):
        self.assertEqual((type(found), [type(entry) for entry in found]), (tuple, [int] * 5))

    def assertTable(self, tuning, wanted):
        found = tuning.table_of()
        self.assertIs(type(found), list)
        self.assertEqual(found, wanted)
        self.assertTrue(is_table_by_steps(found))
        for row in found:
            self.assertRow(row)
            self.assertIs(tuning.alike(row, ONE), True)

    def assertHears(self, tuning, rows):
        """Two rows are alike where their sounds are equal, and just where the table makes what lies between."""
        for one, other in itertools.product(rows, rows):
            between = tuple(entry - taken for entry, taken in zip(one, other))
            wanted = tuning.sound(one) == tuning.sound(other)
            self.assertIs(tuning.alike(one, other), wanted)
            self.assertEqual(is_made(tuning.table_of(), between), wanted)


class Plain(Case):
    def test_each_row_is_heard_as_itself(self):
        for row in ROWS:
            self.assertEqual(Tuning().sound(row), row)
            self.assertRow(Tuning().sound(row))

    def test_alike(self):
        self.assertHears(Tuning(), ROWS)
        self.assertIs(Tuning().alike(FIFTH, (-1, 1, 0, 0, 0)), True)
        self.assertIs(Tuning().alike(FIFTH, times(FIFTH, OCTAVE)), False)

    def test_table(self):
        self.assertTable(Tuning(), [])


class Commas(Case):
    def test_sounds_are_rests(self):
        for commas in ([], [ONE], [COMMA], [COMMA, DIESIS], [DIESIS, COMMA, times(COMMA, DIESIS)], UNITS, [LOWEST]):
            tuning = CommaTuning(commas)
            for row in ROWS:
                self.assertEqual(tuning.sound(row), rest(commas, row))
                self.assertEqual(tuning.sound(row), left_by(table(commas), row))
                self.assertRow(tuning.sound(row))

    def test_known_sounds(self):
        self.assertEqual(CommaTuning([]).sound(FIFTH), FIFTH)
        self.assertEqual(CommaTuning([OCTAVE]).sound(FIFTH), (0, 1, 0, 0, 0))
        self.assertEqual(CommaTuning([COMMA]).sound(COMMA), ONE)
        self.assertEqual(CommaTuning([COMMA]).sound(row_of(5, 4)), row_of(81, 64))
        self.assertEqual(CommaTuning([(7, 0, 0, 0, 0)]).sound((-701, 61, 0, 0, 0)), (6, 61, 0, 0, 0))
        self.assertEqual(CommaTuning(UNITS).sound(HIGHEST), ONE)

    def test_alike(self):
        tuning = CommaTuning([COMMA, DIESIS])
        self.assertIs(tuning.alike(row_of(5, 4), row_of(81, 64)), True)
        self.assertIs(tuning.alike(row_of(5, 4), row_of(7, 4)), False)
        self.assertIs(tuning.alike(power(COMMA, 70), power(DIESIS, -900)), True)
        for commas in ([], [COMMA], [OCTAVE, DIESIS], [power(COMMA, 2)], UNITS):
            self.assertHears(CommaTuning(commas), ROWS + [row_of(81, 64), power(COMMA, 2), power(COMMA, -3)])

    def test_tables(self):
        for commas in ([], [ONE] * 6, [COMMA], [COMMA, DIESIS], [DIESIS, ONE, COMMA, COMMA], UNITS, [HIGHEST, LOWEST]):
            self.assertTable(CommaTuning(commas), table(commas))
        self.assertTable(CommaTuning([ONE]), [])
        self.assertTable(CommaTuning([(-2, 0, 0, 0, 0)]), [(2, 0, 0, 0, 0)])

    def test_thrown_ones(self):
        dice = Dice(71)
        for count in range(7):
            for bound in (1, 3, 60, LONG):
                commas = [dice.row(bound) for _ in range(count)]
                tuning = CommaTuning(commas)
                self.assertTable(tuning, table(commas))
                rows = [dice.row(bound) for _ in range(5)]
                for row in rows:
                    self.assertEqual(tuning.sound(row), rest(commas, row))
                self.assertHears(tuning, rows + [times(rows[0], comma) for comma in commas])

    def test_six_and_seven(self):
        self.assertTable(CommaTuning([COMMA] * 6), table([COMMA]))
        for seven in ([COMMA] * 7, [ONE] * 7, [COMMA] * 6 + [ONE]):
            with self.assertRaises(NoCommas):
                CommaTuning(seven)


class Keys(Case):
    def test_sounds_are_values(self):
        for keys in (
            [], [(TWELVE, 0)], [(TWELVE, 12), (OCTAVE, 0)],
            [(NINETEEN, 2), (TWELVE, 0), (ONE, 5), ((-1, -2, 3, 0, 0), 7)],
        ):
            tuning = KeyTuning(keys)
            for row in ROWS:
                found = tuning.sound(row)
                self.assertIs(type(found), tuple)
                self.assertEqual(found, tuple(heard_as(key, row) for key in keys))
                self.assertEqual([type(entry) for entry in found], [int] * len(keys))

    def test_known_sounds(self):
        self.assertEqual(KeyTuning([]).sound(FIFTH), ())
        self.assertEqual(KeyTuning([(TWELVE, 0)]).sound(FIFTH), (7,))
        self.assertEqual(KeyTuning([(TWELVE, 0), (TWELVE, 4), (OCTAVE, 2)]).sound(row_of(2, 3)), (-7, 1, 1))

    def test_alike(self):
        for keys in ([], [(TWELVE, 0)], [(TWELVE, 12)], [(TWELVE, 0), (NINETEEN, 3)], [(row, 0) for row in UNITS]):
            self.assertHears(KeyTuning(keys), ROWS + [row_of(81, 64), row_of(5, 4), power(COMMA, 3)])
        self.assertIs(KeyTuning([]).alike(HIGHEST, LOWEST), True)
        self.assertIs(KeyTuning([(TWELVE, 12)]).alike(ONE, OCTAVE), True)
        self.assertIs(KeyTuning([(TWELVE, 0)]).alike(ONE, OCTAVE), False)

    def test_tables(self):
        self.assertTable(KeyTuning([]), UNITS)
        self.assertTable(KeyTuning([(row, 0) for row in UNITS]), [])
        self.assertTable(KeyTuning([(OCTAVE, 12)]), UNITS[:4] + [(12, 0, 0, 0, 0)])
        for keys in ([(TWELVE, 0)], [(TWELVE, 12)], [(TWELVE, 0), (NINETEEN, 3)], [(ONE, 9)], [(TWELVE, 5)] * 6):
            self.assertTable(KeyTuning(keys), lost(keys))

    def test_thrown_ones(self):
        dice = Dice(72)
        for count in range(7):
            for bound in (1, 9, LONG):
                keys = [(dice.row(bound), (0, 0, 2, 6, bound + 1)[dice.throw(0, 4)]) for _ in range(count)]
                tuning = KeyTuning(keys)
                self.assertTable(tuning, lost(keys))
                rows = [dice.row(bound) for _ in range(4)]
                self.assertHears(tuning, rows + [times(rows[0], row) for row in lost(keys)])

    def test_six_and_seven(self):
        six = [(row, 0) for row in UNITS] + [(TWELVE, 2)]
        self.assertTable(KeyTuning(six), [])
        for seven in (six + [(TWELVE, 0)], [(ONE, 0)] * 7):
            with self.assertRaises(NoKeys):
                KeyTuning(seven)

    def test_rings(self):
        for ring in (0, 2, 3, LONG):
            self.assertTable(KeyTuning([(TWELVE, ring)]), lost([(TWELVE, ring)]))
        for ring in (1, -1, -2, -12, -LONG):
            for keys in ([(TWELVE, ring)], [(TWELVE, 0), (OCTAVE, ring)], [(OCTAVE, ring), (TWELVE, 0)]):
                with self.assertRaises(NoKeys):
                    KeyTuning(keys)


class Boards(Case):
    def test_sounds_are_whole_numbers(self):
        for row in (TWELVE, NINETEEN, OCTAVE, (1, -5, 0, 7, -2), (LONG, LONG, -LONG, 3, 0)):
            board = Board(row)
            for heard in ROWS:
                self.assertIs(type(board.sound(heard)), int)
                self.assertEqual(board.sound(heard), heard_as((row, 0), heard))

    def test_known_sounds(self):
        board = Board(TWELVE)
        self.assertEqual([board.sound(row) for row in (ONE, OCTAVE, FIFTH, COMMA)], [0, 12, 7, 0])
        self.assertEqual(board.sound(row_of(2, 3)), -7)
        self.assertEqual(board.sound((-701, 0, 0, 0, 0)), -12 * 701)

    def test_octave(self):
        for row in (TWELVE, NINETEEN, OCTAVE, (1, -5, 0, 7, -2), (LONG, 0, 0, 0, 0)):
            self.assertEqual(Board(row).octave, row[0])
            self.assertIs(type(Board(row).octave), int)
            self.assertEqual(Board(row).sound(OCTAVE), row[0])

    def test_alike(self):
        for row in (TWELVE, OCTAVE, (2, 3, 5, -1, 0)):
            self.assertHears(Board(row), ROWS + [row_of(81, 64), row_of(5, 4), power(COMMA, 3)])

    def test_tables(self):
        for row in (TWELVE, NINETEEN, (1, -5, 0, 7, -2), (LONG, 4, 0, 0, LONG)):
            self.assertTable(Board(row), lost([(row, 0)]))
        self.assertTable(Board(OCTAVE), UNITS[:4])

    def test_first_numbers(self):
        self.assertEqual(Board((1, 0, 0, 0, 0)).octave, 1)
        for first in (0, -1, -12, -LONG):
            for row in ((first, 19, 28, 34, 42), (first, 0, 0, 0, 0)):
                with self.assertRaises(NoBoard):
                    Board(row)


class Classes(unittest.TestCase):
    def test_which_stands_under_which(self):
        self.assertEqual(CommaTuning.__bases__, (Tuning,))
        self.assertEqual(KeyTuning.__bases__, (Tuning,))
        self.assertEqual(Board.__bases__, (KeyTuning,))
        self.assertIsInstance(Board(TWELVE), Tuning)
        self.assertNotIsInstance(Board(TWELVE), CommaTuning)
        self.assertNotIsInstance(CommaTuning([]), KeyTuning)


class HandedIn(unittest.TestCase):
    def assertStays(self, tuning, change):
        """What a tuning hears and its table are the same behind a change."""
        ahead = [tuning.sound(row) for row in ROWS]
        steps = tuning.table_of()
        change()
        self.assertEqual([tuning.sound(row) for row in ROWS], ahead)
        self.assertEqual(tuning.table_of(), steps)

    def test_what_is_handed_in_stays(self):
        commas = [DIESIS, ONE, COMMA]
        keys = [(TWELVE, 0), (NINETEEN, 4)]
        for tuning in (CommaTuning(commas), KeyTuning(keys)):
            tuning.sound(FIFTH)
            tuning.alike(FIFTH, ONE)
            apart(tuning, Tuning())
            tuning.table_of()
        self.assertEqual(commas, [DIESIS, ONE, COMMA])
        self.assertEqual(keys, [(TWELVE, 0), (NINETEEN, 4)])

    def test_commas_changed_afterwards(self):
        for change in (list.clear, list.reverse, lambda commas: commas.append(OCTAVE), lambda commas: commas.pop(0)):
            commas = [COMMA, DIESIS]
            tuning = CommaTuning(commas)
            self.assertStays(tuning, lambda: change(commas))
        none = []
        tuning = CommaTuning(none)
        self.assertStays(tuning, lambda: none.append(OCTAVE))

    def test_a_table_as_commas_changed_afterwards(self):
        steps = table([COMMA, DIESIS])
        tuning = CommaTuning(steps)
        self.assertStays(tuning, steps.clear)

    def test_keys_changed_afterwards(self):
        def put(keys):
            keys[0] = (NINETEEN, 3)

        for change in (list.clear, list.reverse, lambda keys: keys.append((OCTAVE, 2)), put):
            keys = [(TWELVE, 0), (NINETEEN, 5)]
            tuning = KeyTuning(keys)
            self.assertStays(tuning, lambda: change(keys))

    def test_told_tables_are_the_askers_own(self):
        for make in (
            Tuning, lambda: CommaTuning([]), lambda: CommaTuning([COMMA, DIESIS]), lambda: KeyTuning([]),
            lambda: KeyTuning([(TWELVE, 0)]), lambda: Board(TWELVE),
        ):
            tuning = make()
            first = tuning.table_of()
            second = tuning.table_of()
            kept = list(second)
            self.assertIsNot(first, second)
            self.assertStays(tuning, lambda: first.append(OCTAVE))
            self.assertStays(tuning, first.clear)
            self.assertEqual(second, kept)
            self.assertEqual(make().table_of(), kept)

    def test_tunings_side_by_side(self):
        one = CommaTuning([COMMA])
        other = CommaTuning([DIESIS])
        self.assertEqual((one.sound(COMMA), other.sound(DIESIS)), (ONE, ONE))
        self.assertFalse(one.alike(DIESIS, ONE))
        small = Board(TWELVE)
        large = Board(NINETEEN)
        self.assertEqual((small.sound(FIFTH), large.sound(FIFTH), small.octave, large.octave), (7, 11, 12, 19))


class Apart(Case):
    def assertSame(self, one, other):
        for first, second in ((one, other), (other, one), (one, one), (other, other)):
            self.assertIs(same_tuning(first, second), True)
            self.assertIsNone(apart(first, second))

    def assertApart(self, one, other):
        for first, second in ((one, other), (other, one)):
            self.assertIs(same_tuning(first, second), False)
            row = apart(first, second)
            self.assertRow(row)
            there = first.alike(row, ONE)
            self.assertEqual(there, is_made(first.table_of(), row))
            self.assertNotEqual(there, second.alike(row, ONE))
            self.assertNotEqual(there, is_made(second.table_of(), row))

    def test_each_two_classes_that_are_the_same(self):
        groups = (
            [Tuning(), Tuning(), CommaTuning([]), CommaTuning([ONE]), KeyTuning([(row, 0) for row in UNITS])],
            [
                CommaTuning(lost([(TWELVE, 0)])), KeyTuning([(TWELVE, 0)]), KeyTuning([(power(TWELVE, -3), 0)]),
                Board(TWELVE), Board(power(TWELVE, 2)), KeyTuning([(TWELVE, 0), (TWELVE, 5)]),
            ],
            [CommaTuning([COMMA, DIESIS]), CommaTuning([DIESIS, times(COMMA, DIESIS)]),
             KeyTuning(keys_for([COMMA, DIESIS]))],
            [CommaTuning(UNITS), KeyTuning([]), KeyTuning([(ONE, 0)]), CommaTuning(UNITS[::-1])],
            [CommaTuning(UNITS[:4] + [(12, 0, 0, 0, 0)]), KeyTuning([(OCTAVE, 12)]),
             KeyTuning([(power(OCTAVE, 5), 12)])],
        )
        for group in groups:
            for one, other in itertools.product(group, group):
                self.assertSame(one, other)
        for here, there in itertools.combinations(groups, 2):
            for one, other in itertools.product(here, there):
                self.assertApart(one, other)

    def test_one_makes_rows_that_the_other_does_not(self):
        for fewer, more in (
            ([], [COMMA]), ([COMMA], [COMMA, DIESIS]), ([power(COMMA, 2)], [COMMA]), (UNITS[:4], UNITS),
            (UNITS[1:], UNITS), ([(12, 0, 0, 0, 0)], [(6, 0, 0, 0, 0)]),
        ):
            self.assertApart(CommaTuning(fewer), CommaTuning(more))
            self.assertApart(KeyTuning(keys_for(fewer)), CommaTuning(more))
            self.assertApart(CommaTuning(fewer), KeyTuning(keys_for(more)))

    def test_each_makes_rows_that_the_other_does_not(self):
        self.assertApart(CommaTuning([COMMA]), CommaTuning([DIESIS]))
        self.assertApart(CommaTuning([(4, 0, 0, 0, 0)]), CommaTuning([(6, 0, 0, 0, 0)]))
        self.assertApart(Board(TWELVE), Board(NINETEEN))
        self.assertApart(Board(TWELVE), CommaTuning([OCTAVE]))
        self.assertApart(KeyTuning([(OCTAVE, 4)]), KeyTuning([(OCTAVE, 6)]))

    def test_a_board_with_the_plain_tuning_and_with_no_keys(self):
        self.assertApart(Board(OCTAVE), Tuning())
        self.assertApart(Board(OCTAVE), KeyTuning([]))
        self.assertSame(Board(OCTAVE), CommaTuning(UNITS[:4]))

    def test_thrown_ones(self):
        dice = Dice(73)
        seen = []
        tunings = [Tuning(), Board(TWELVE)]
        for bound in (1, 2, 60, LONG):
            for count in range(7):
                commas = [dice.row(bound) for _ in range(count)]
                keys = keys_for(commas)
                self.assertSame(CommaTuning(commas), KeyTuning(keys))
                self.assertSame(CommaTuning(table(commas)), CommaTuning(commas))
                tunings.extend([CommaTuning(commas), KeyTuning(keys[dice.throw(0, 1):])])
        for one, other in itertools.combinations(tunings, 2):
            seen.append(one.table_of() == other.table_of())
            if seen[-1]:
                self.assertSame(one, other)
            else:
                self.assertApart(one, other)
        self.assertEqual(set(seen), {True, False})

    def test_rows_that_tell_two_apart_may_be_no_tones(self):
        far = (LONG, 0, 0, 0, 0)
        self.assertFalse(is_tone(far))
        self.assertApart(CommaTuning([far]), Tuning())


if __name__ == "__main__":
    unittest.main()
