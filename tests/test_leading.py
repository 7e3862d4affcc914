"""The way from tone to tone on a board, and chords led on: points 2, 3, 37 and 38."""

import itertools
import unittest

from helper import HIGHEST, LOWEST, Dice, heard_as
from tuningyard.errors import NoChord
from tuningyard.leading import least_steps, led, way
from tuningyard.rows import ONE, over, power, row_of, times
from tuningyard.tunings import Board

OCTAVE = (1, 0, 0, 0, 0)
FIFTH = row_of(3, 2)
FOURTH = row_of(4, 3)
THIRD = row_of(5, 4)
COMMA = row_of(81, 80)
TWELVE = (12, 19, 28, 34, 42)
ROWS = (TWELVE, (19, 30, 44, 53, 66), (1, 0, 0, 0, 0), (2, 3, 5, 6, 7), (5, -8, 3, -14, 17), (31, 49, 72, 87, 107))
MAJOR = [ONE, THIRD, FIFTH]
TONES = [ONE, OCTAVE, FIFTH, FOURTH, THIRD, COMMA, row_of(7, 4), row_of(11, 8), row_of(1, 9), HIGHEST, LOWEST]


def tone_with(sound):
    """A tone which the board of this row hears as this sound."""
    return (0, sound, 0, 0, 0)


def line_board(octave):
    """A board on which the power of 3 is the sound, but for octaves."""
    return Board((octave, 1, 0, 0, 0))


def way_by_looking(row, one, other):
    """The way, found among the nearest places of the second tone."""
    start = heard_as((row, 0), one)
    place = heard_as((row, 0), other)
    near = (start - place) // row[0]
    places = [place + n * row[0] for n in range(near - 2, near + 4)]
    best = min(places, key=lambda there: (abs(there - start), there))
    return (abs(best - start), best)


class Ways(unittest.TestCase):
    def assertWay(self, board, one, other, wanted):
        found = way(board, one, other)
        self.assertEqual((type(found), [type(entry) for entry in found]), (tuple, [int, int]))
        self.assertEqual(found, wanted)

    def test_known_ones(self):
        board = Board(TWELVE)
        self.assertWay(board, ONE, THIRD, (4, 4))
        self.assertWay(board, THIRD, ONE, (4, 0))
        self.assertWay(board, ONE, FIFTH, (5, -5))
        self.assertWay(board, FIFTH, ONE, (5, 12))
        self.assertWay(board, FIFTH, THIRD, (3, 4))

    def test_the_same_sound(self):
        for row in ROWS:
            board = Board(row)
            for tone in TONES:
                self.assertWay(board, tone, tone, (0, board.sound(tone)))
                self.assertWay(board, tone, over(tone, (5, 0, 0, 0, 0)), (0, board.sound(tone)))
        self.assertWay(Board(TWELVE), THIRD, row_of(81, 64), (0, 4))

    def test_farther_apart_than_an_octave(self):
        board = Board(TWELVE)
        self.assertWay(board, ONE, power(FIFTH, 2), (2, 2))
        self.assertWay(board, power(OCTAVE, 40), THIRD, (4, 484))
        self.assertWay(board, ONE, power(THIRD, 20), (4, -4))

    def test_two_equally_near(self):
        self.assertWay(Board(TWELVE), ONE, row_of(45, 32), (6, -6))
        self.assertWay(Board(TWELVE), row_of(45, 32), ONE, (6, 0))
        for octave in (2, 4, 6, 12, 100):
            half = octave // 2
            for n in range(-3, 4):
                self.assertWay(line_board(octave), tone_with(n), tone_with(n + half), (half, n - half))
                self.assertWay(line_board(octave), tone_with(n + half), tone_with(n), (half, n))
        self.assertWay(line_board(3), ONE, tone_with(1), (1, 1))
        self.assertWay(line_board(3), ONE, tone_with(2), (1, -1))

    def test_an_octave_of_one_step(self):
        for one, other in itertools.product(TONES, TONES):
            board = Board((1, 5, -7, 2, 3))
            self.assertWay(board, one, other, (0, board.sound(one)))

    def test_sounds_below_nought(self):
        board = Board(TWELVE)
        self.assertWay(board, row_of(1, 3), ONE, (5, -24))
        self.assertWay(board, row_of(1, 5), row_of(1, 3), (3, -31))
        self.assertWay(Board((12, -19, 0, 0, 0)), FIFTH, ONE, (5, -36))

    def test_found_by_looking(self):
        dice = Dice(121)
        for row in ROWS:
            board = Board(row)
            for one, other in itertools.product(TONES, TONES):
                self.assertWay(board, one, other, way_by_looking(row, one, other))
            for _ in range(30):
                one = dice.row(60)
                other = dice.row(60)
                self.assertWay(board, one, other, way_by_looking(row, one, other))

    def test_all_small_ones(self):
        for octave in range(1, 9):
            for one, other in itertools.product(range(-10, 11), repeat=2):
                self.assertWay(line_board(octave), tone_with(one), tone_with(other),
                               way_by_looking((octave, 1, 0, 0, 0), tone_with(one), tone_with(other)))

    def test_the_second_moved_by_octaves(self):
        for row in ROWS:
            board = Board(row)
            for one, other in itertools.product(TONES[:9], TONES[:9]):
                wanted = way(board, one, other)
                for n in (-300, -1, 1, 2, 300):
                    self.assertWay(board, one, times(other, (n, 0, 0, 0, 0)), wanted)

    def test_the_first_moved_by_octaves(self):
        board = Board(TWELVE)
        for one, other in itertools.product(TONES[:9], TONES[:9]):
            found = way(board, one, other)
            self.assertWay(board, times(one, OCTAVE), other, (found[0], found[1] + 12))

    def test_as_many_steps_there_as_back(self):
        for row in ROWS:
            for one, other in itertools.product(TONES, TONES):
                self.assertEqual(way(Board(row), one, other)[0], way(Board(row), other, one)[0])

    def test_steps_are_at_most_half_an_octave(self):
        for row in ROWS:
            for one, other in itertools.product(TONES, TONES):
                self.assertTrue(0 <= 2 * way(Board(row), one, other)[0] <= row[0])


class Leading(unittest.TestCase):
    def assertLed(self, board, chord, goal):
        """Each promise of point 38 holds; tells the least steps."""
        found = led(board, chord, goal)
        count = len(chord)
        self.assertEqual((type(found), len(found)), (tuple, 4))
        for part in found:
            self.assertEqual((type(part), [type(entry) for entry in part]), (list, [int] * count))
        goes, comes, here, there = found
        self.assertEqual(sorted(goes), list(range(count)))
        ways = [[way(board, one, other) for other in goal] for one in chord]
        for one in range(count):
            self.assertEqual(comes[one], ways[one][goes[one]][1])
            self.assertEqual(here[one] + there[goes[one]], ways[one][goes[one]][0])
            for other in range(count):
                self.assertLessEqual(here[one] + there[other], ways[one][other][0])
        total = sum(ways[one][goes[one]][0] for one in range(count))
        self.assertEqual(sum(here) + sum(there), total)
        steps = least_steps(board, chord, goal)
        self.assertEqual((type(steps), steps), (int, total))
        return total

    def assertLeast(self, board, chord, goal):
        """As assertLed, and held against all orders."""
        total = self.assertLed(board, chord, goal)
        steps = [[way(board, one, other)[0] for other in goal] for one in chord]
        orders = itertools.permutations(range(len(chord)))
        self.assertEqual(total, min(sum(row[place] for row, place in zip(steps, order)) for order in orders))

    def test_known_ones(self):
        board = Board(TWELVE)
        tonic = MAJOR
        dominant = [times(FIFTH, tone) for tone in MAJOR]
        self.assertEqual(least_steps(board, tonic, dominant), 3)
        self.assertEqual(led(board, tonic, dominant)[:2], ([1, 2, 0], [-1, 2, 7]))
        self.assertEqual(least_steps(board, [ONE], [THIRD]), 4)
        self.assertEqual(led(board, [ONE], [THIRD])[:2], ([0], [4]))
        self.assertEqual(least_steps(board, tonic, tonic), 0)
        self.assertEqual(led(board, tonic, tonic)[:2], ([0, 1, 2], [0, 4, 7]))

    def test_the_nearest_goal_is_left_to_another_tone(self):
        board = line_board(100)
        low = tone_with(5)
        high = tone_with(8)
        goal = [tone_with(6), tone_with(1)]
        # Both tones are nearest to the first goal. Where the lower one takes it, the steps are 1 and 7.
        self.assertEqual(led(board, [low, high], goal)[:2], ([1, 0], [1, 6]))
        self.assertEqual(led(board, [high, low], goal)[:2], ([0, 1], [6, 1]))
        self.assertEqual(least_steps(board, [low, high], goal), 6)

    def test_tones_that_must_give_way_one_behind_the_other(self):
        board = line_board(100)
        chord = [tone_with(10 * n) for n in range(6)]
        goal = [tone_with(10 * n - 9) for n in range(6)]
        for order in itertools.islice(itertools.permutations(chord), 0, 720, 29):
            self.assertLeast(board, list(order), goal)

    def test_one_tone(self):
        for row in ROWS:
            for one, other in itertools.product(TONES, TONES):
                self.assertLeast(Board(row), [one], [other])

    def test_two_tones_of_all_small_sounds(self):
        board = line_board(7)
        for sounds in itertools.product(range(7), repeat=4):
            tones = [tone_with(sound) for sound in sounds]
            self.assertLeast(board, tones[:2], tones[2:])

    def test_three_tones_of_small_sounds(self):
        board = line_board(5)
        for sounds in itertools.product(range(5), repeat=5):
            tones = [tone_with(sound) for sound in sounds] + [ONE]
            self.assertLeast(board, tones[:3], tones[3:])

    def test_thrown_chords_held_against_all_orders(self):
        dice = Dice(122)
        for row in ROWS:
            for count in range(1, 7):
                for bound in (1, 4, 60):
                    chord = [dice.row(bound) for _ in range(count)]
                    goal = [dice.row(bound) for _ in range(count)]
                    self.assertLeast(Board(row), chord, goal)

    def test_six_tones_on_large_boards(self):
        dice = Dice(123)
        for octave in (7, 50, 1000, 10 ** 24):
            for _ in range(12):
                board = Board((octave,) + dice.row(octave)[:4])
                chord = [dice.row(9) for _ in range(6)]
                goal = [dice.row(9) for _ in range(6)]
                self.assertLeast(board, chord, goal)

    def test_tones_that_are_alike(self):
        dice = Dice(124)
        for count in range(1, 7):
            for _ in range(12):
                few = [tone_with(dice.throw(0, 2)) for _ in range(3)]
                chord = [few[dice.throw(0, 2)] for _ in range(count)]
                goal = [tone_with(dice.throw(-2, 2)) for _ in range(count)]
                self.assertLeast(line_board(9), chord, goal)
                self.assertLeast(line_board(9), goal, chord)
        self.assertLeast(Board(TWELVE), [ONE] * 6, [FIFTH] * 6)
        self.assertEqual(least_steps(Board(TWELVE), [ONE] * 6, [FIFTH] * 6), 30)
        self.assertEqual(least_steps(Board(TWELVE), [THIRD] * 3, [row_of(81, 64)] * 3), 0)

    def test_as_many_there_as_back(self):
        dice = Dice(125)
        for row in ROWS:
            for count in range(1, 7):
                chord = [dice.row(5) for _ in range(count)]
                goal = [dice.row(5) for _ in range(count)]
                self.assertEqual(least_steps(Board(row), chord, goal), least_steps(Board(row), goal, chord))

    def test_the_same_tones_in_another_order_and_other_octaves(self):
        dice = Dice(126)
        for row in ROWS:
            chord = [dice.row(20) for _ in range(6)]
            for order in itertools.islice(itertools.permutations(range(6)), 0, 720, 37):
                goal = [times(chord[place], (dice.throw(-300, 300), 0, 0, 0, 0)) for place in order]
                self.assertEqual(self.assertLed(Board(row), chord, goal), 0)
                self.assertEqual(led(Board(row), chord, goal)[1], [Board(row).sound(tone) for tone in chord])

    def test_no_chords(self):
        board = Board(TWELVE)
        for here in range(9):
            for there in range(9):
                chord = [power(FIFTH, n) for n in range(here)]
                goal = [power(THIRD, n) for n in range(there)]
                if here == there and 1 <= here <= 6:
                    self.assertLed(board, chord, goal)
                else:
                    with self.assertRaises(NoChord):
                        led(board, chord, goal)
                    with self.assertRaises(NoChord):
                        least_steps(board, chord, goal)

    def test_what_is_handed_in_stays(self):
        chord = list(MAJOR)
        goal = [times(FIFTH, tone) for tone in MAJOR]
        kept = list(goal)
        board = Board(TWELVE)
        found = led(board, chord, goal)
        least_steps(board, chord, goal)
        self.assertEqual((chord, goal), (MAJOR, kept))
        shown = [list(part) for part in found]
        chord.clear()
        goal.reverse()
        self.assertEqual([list(part) for part in found], shown)

    def test_the_lists_are_the_askers_own(self):
        board = Board(TWELVE)
        first = led(board, MAJOR, MAJOR)
        second = led(board, MAJOR, MAJOR)
        kept = [list(part) for part in second]
        for part in first:
            part.append(99)
        self.assertEqual([list(part) for part in second], kept)
        self.assertEqual([list(part) for part in led(board, MAJOR, MAJOR)], kept)
        self.assertEqual(len({id(part) for part in second}), 4)


if __name__ == "__main__":
    unittest.main()
