"""Scales: points 2, 3, 14, 15, 16 and 17."""

import itertools
import unittest

from helper import HIGHEST, LOWEST, Dice, fold, number
from tuningyard.errors import NoName, NoScale, TooFar
from tuningyard.names import name_of, named
from tuningyard.rows import ONE, is_tone, power, row_of, times
from tuningyard.scales import gaps, loop, scale_moved, scale_of, scale_read, scale_text
from tuningyard.spans import chain

OCTAVE = (1, 0, 0, 0, 0)
FIFTH = (-1, 1, 0, 0, 0)
MAJOR = [row_of(top, bottom) for top, bottom in ((1, 1), (9, 8), (5, 4), (4, 3), (3, 2), (5, 3), (15, 8))]


def unit(place, entry):
    """The row of noughts, but for one number."""
    return tuple(entry if here == place else 0 for here in range(5))


def scale_by_numbers(tones):
    """The scale of tones, as the numbers tell it."""
    return sorted({fold(tone) for tone in tones}, key=number)


class ScaleCase(unittest.TestCase):
    def assertScale(self, found, wanted):
        self.assertIs(type(found), list)
        self.assertEqual(found, wanted)
        self.assertEqual(found, scale_by_numbers(found))
        for tone in found:
            self.assertIs(is_tone(tone), True)

    def assertOwn(self, ask):
        """What is asked tells a new list each time, and the asker's own."""
        first = ask()
        second = ask()
        self.assertIs(type(first), list)
        kept = list(second)
        self.assertIsNot(first, second)
        first.append(HIGHEST)
        self.assertEqual(second, kept)
        self.assertEqual(ask(), kept)


class Making(ScaleCase):
    def test_in_any_order(self):
        for tones in (MAJOR, MAJOR[::-1], MAJOR[3:] + MAJOR[:3], MAJOR[::2] + MAJOR[1::2]):
            self.assertScale(scale_of(tones), MAJOR)

    def test_of_any_octaves(self):
        tones = [times(tone, (n * n * n - 20, 0, 0, 0, 0)) for n, tone in enumerate(MAJOR)]
        self.assertScale(scale_of(tones), MAJOR)
        self.assertScale(scale_of([(700, 0, 0, 0, 0), (-700, 0, 0, 0, 0)]), [ONE])

    def test_told_more_than_once(self):
        self.assertScale(scale_of(MAJOR + MAJOR[::-1]), MAJOR)
        self.assertScale(scale_of([FIFTH, times(FIFTH, OCTAVE), FIFTH]), [FIFTH])

    def test_no_tones_and_one(self):
        self.assertScale(scale_of([]), [])
        self.assertScale(scale_of([OCTAVE]), [ONE])
        self.assertScale(scale_of([(0, 0, 0, 0, -1)]), [(4, 0, 0, 0, -1)])

    def test_sixty_tones(self):
        tones = list(itertools.product((-3, 5), (-30, 0, 30), (-1, 4, 30), (-30, 2, 7), (-30, 30)))[:60]
        self.assertEqual(len(tones), 60)
        self.assertScale(scale_of(tones), scale_by_numbers(tones))

    def test_powers_at_30_and_31(self):
        for place in range(1, 5):
            for sign in (-1, 1):
                there = unit(place, 30 * sign)
                self.assertScale(scale_of([there]), [fold(there)])
                beyond = unit(place, 31 * sign)
                self.assertIs(is_tone(beyond), True)
                for tones in ([beyond], [ONE, beyond], [beyond, ONE], [there, FIFTH, beyond]):
                    with self.assertRaises(TooFar):
                        scale_of(tones)

    def test_all_powers_at_their_bounds(self):
        for row in itertools.product((-700, 0, 700), (-30, 30), (-30, 30), (-30, 30), (-30, 30)):
            self.assertScale(scale_of([row]), [fold(row)])
        with self.assertRaises(TooFar):
            scale_of([HIGHEST])
        with self.assertRaises(TooFar):
            scale_of([LOWEST])

    def test_tones_that_lie_near_each_other(self):
        near = (-3, 4, -2, -2, 2)
        self.assertScale(scale_of([near, ONE, power(near, -1)]), [ONE, near, times(OCTAVE, power(near, -1))])

    def test_what_is_handed_in_stays(self):
        tones = [FIFTH, times(FIFTH, OCTAVE), OCTAVE, ONE]
        kept = list(tones)
        found = scale_of(tones)
        self.assertEqual(tones, kept)
        tones.append((-2, 0, 1, 0, 0))
        self.assertEqual(found, [ONE, FIFTH])

    def test_a_new_list_each_time(self):
        for tones in ([], [ONE], list(MAJOR)):
            self.assertOwn(lambda: scale_of(tones))
            self.assertIsNot(scale_of(tones), tones)


class Loops(ScaleCase):
    def test_known_ones(self):
        self.assertScale(loop(FIFTH, 0), [])
        self.assertScale(loop(FIFTH, 1), [ONE])
        self.assertScale(loop(FIFTH, 3), [ONE, (-3, 2, 0, 0, 0), FIFTH])
        self.assertScale(loop((0, 1, 0, 0, 0), 3), [ONE, (-3, 2, 0, 0, 0), FIFTH])

    def test_seven_where_no_count_is_told(self):
        self.assertScale(loop(FIFTH), loop(FIFTH, 7))
        self.assertScale(loop(FIFTH), scale_by_numbers([(0, n, 0, 0, 0) for n in range(7)]))

    def test_octaves_alone(self):
        self.assertScale(loop(OCTAVE), [ONE])
        self.assertScale(loop(ONE, 60), [ONE])

    def test_the_scale_of_its_chain(self):
        for span in (FIFTH, (-2, 0, 1, 0, 0), (3, 0, 0, -1, 0), (-3, 0, 0, 0, 1), (1, 1, -1, 0, 0)):
            for count in (0, 1, 2, 12, 31):
                self.assertScale(loop(span, count), scale_of(chain(ONE, span, count)))
                self.assertEqual(len(loop(span, count)), count)

    def test_too_far(self):
        self.assertEqual(len(loop(FIFTH, 31)), 31)
        with self.assertRaises(TooFar):
            loop(FIFTH, 32)
        with self.assertRaises(TooFar):
            loop(FIFTH, 60)
        with self.assertRaises(TooFar):
            loop((100, 0, 0, 0, 0), 9)
        with self.assertRaises(TooFar):
            loop((0, 0, -16, 0, 0), 3)

    def test_a_new_list_each_time(self):
        for count in (0, 1, 5):
            self.assertOwn(lambda: loop(FIFTH, count))


class Gaps(ScaleCase):
    def test_known_ones(self):
        wanted = [row_of(top, bottom) for top, bottom in (
            (9, 8), (10, 9), (16, 15), (9, 8), (10, 9), (9, 8), (16, 15))]
        self.assertEqual(gaps(MAJOR), wanted)

    def test_no_tones_and_one(self):
        self.assertEqual(gaps([]), [])
        for tone in (ONE, FIFTH, fold((0, 30, -30, 30, -30))):
            self.assertEqual(gaps([tone]), [OCTAVE])

    def test_scales_that_do_not_begin_with_one(self):
        self.assertEqual(gaps(MAJOR[1:3]), [row_of(10, 9), row_of(9, 5)])

    def test_their_product_is_the_octave(self):
        dice = Dice(5)
        for count in range(1, 40):
            scale = scale_of([dice.row(30) for _ in range(count)])
            found = gaps(scale)
            self.assertEqual(len(found), len(scale))
            product = ONE
            for low, gap, high in zip(scale, found, scale[1:] + [times(scale[0], OCTAVE)]):
                product = times(product, gap)
                self.assertIs(is_tone(gap), True)
                self.assertEqual(times(low, gap), high)
                self.assertTrue(1 < number(gap) <= 2)
            self.assertEqual(product, OCTAVE)

    def test_unlike_gaps_of_loops(self):
        seen = set()
        for span in (FIFTH, (-2, 0, 1, 0, 0), (-2, 0, 0, 1, 0), (1, 1, -1, 0, 0), (1, -2, 1, 0, 0), (-3, 0, 0, 0, 1)):
            for count in range(1, 16):
                unlike = sorted(set(gaps(loop(span, count))), key=number)
                seen.add(len(unlike))
                self.assertLessEqual(len(unlike), 3)
                if len(unlike) == 3:
                    self.assertEqual(unlike[2], times(unlike[0], unlike[1]))
        self.assertEqual(seen, {1, 2, 3})

    def test_loops_with_two_and_with_three(self):
        self.assertEqual(set(gaps(loop(FIFTH, 7))), {row_of(9, 8), row_of(256, 243)})
        self.assertEqual(set(gaps(loop(FIFTH, 5))), {row_of(9, 8), row_of(32, 27)})
        self.assertEqual(set(gaps(loop(FIFTH, 6))), {row_of(9, 8), row_of(256, 243), row_of(32, 27)})
        self.assertEqual(times(row_of(9, 8), row_of(256, 243)), row_of(32, 27))

    def test_what_is_handed_in_stays(self):
        scale = list(MAJOR)
        found = gaps(scale)
        self.assertEqual(scale, MAJOR)
        scale.pop()
        self.assertEqual(len(found), 7)

    def test_a_new_list_each_time(self):
        for scale in ([], [ONE], list(MAJOR)):
            self.assertOwn(lambda: gaps(scale))


class Texts(ScaleCase):
    def test_writing(self):
        self.assertEqual(scale_text(MAJOR), "C.0 D.0 E-.0 F.0 G.0 A-.0 B-.0")
        self.assertEqual(scale_text([FIFTH]), "G.0")
        self.assertEqual(scale_text([]), "")
        self.assertIs(type(scale_text(MAJOR)), str)

    def test_reading(self):
        self.assertScale(scale_read("C.0 D.0 E-.0 F.0 G.0 A-.0 B-.0"), MAJOR)
        self.assertScale(scale_read("G.0"), [FIFTH])
        self.assertScale(scale_read(""), [])

    def test_reading_in_any_order_and_octave_and_often(self):
        self.assertScale(scale_read("G.0 C.0"), [ONE, FIFTH])
        self.assertScale(scale_read("G.12 C.-700 G.-3 C.700 C.0"), [ONE, FIFTH])
        self.assertScale(scale_read("B-.9 A-.8 G.7 F.6 E-.5 D.4 C.3 C.2"), MAJOR)

    def test_there_and_back(self):
        dice = Dice(8)
        for count in range(60):
            scale = scale_of([dice.row(30) for _ in range(count)])
            text = scale_text(scale)
            self.assertEqual(text.split(" ") if text else [], [name_of(tone) for tone in scale])
            self.assertScale(scale_read(text), scale)
            self.assertEqual(scale_text(scale_read(text)), text)

    def test_blanks(self):
        for text in (" ", "  ", " C.0", "C.0 ", " C.0 ", "C.0  G.0", "C.0 G.0  ", "  C.0 G.0"):
            with self.assertRaises(NoName, msg=repr(text)):
                scale_read(text)

    def test_words_that_are_no_name(self):
        for text in ("x", "C", "C.0,G.0", "C.0\nG.0", "C.0 g.0", "H.0 C.0", "C.0 G.-0", "C.0G.0", "C.0 1/1"):
            with self.assertRaises(NoName, msg=repr(text)):
                scale_read(text)

    def test_60_and_61_words(self):
        self.assertScale(scale_read(" ".join(["C.0"] * 60)), [ONE])
        self.assertScale(scale_read(" ".join(["C.0"] * 59 + ["G.3"])), [ONE, FIFTH])
        for words in (["C.0"] * 61, ["C.0"] * 60 + [""], [""] * 61, ["C.0"] * 5000):
            with self.assertRaises(NoScale):
                scale_read(" ".join(words))
        with self.assertRaises(NoName):
            scale_read(" ".join(["C.0"] * 59 + [""]))
        with self.assertRaises(NoName):
            scale_read(" " * 59)
        with self.assertRaises(NoScale):
            scale_read(" " * 60)

    def test_names_that_are_too_far(self):
        for text in ("C.701", "C.0 C.-701", "C.9999 C.0"):
            with self.assertRaises(TooFar, msg=text):
                scale_read(text)

    def test_tones_that_no_scale_holds(self):
        there = name_of(unit(4, 30))
        beyond = name_of(unit(4, 31))
        self.assertEqual(named(beyond), unit(4, 31))
        self.assertScale(scale_read(there), [fold(unit(4, 30))])
        for text in (beyond, "C.0 " + beyond, beyond + " C.0"):
            with self.assertRaises(TooFar, msg=text):
                scale_read(text)

    def test_which_refusal_goes_ahead(self):
        beyond = name_of(unit(4, 31))
        for words, refusal in (
            (["x"] + ["C.0"] * 60, NoScale), (["C.9999"] + ["C.0"] * 60, NoScale), ([beyond] * 61, NoScale),
            (["x", "C.9999"], NoName), (["C.9999", "x"], TooFar), (["C.0", "C.9999", ""], TooFar),
            ([beyond, "x"], NoName), ([beyond, "C.0", ""], NoName), (["", "C.9999"], NoName),
        ):
            with self.assertRaises(refusal, msg=words[:3]):
                scale_read(" ".join(words))

    def test_a_new_list_each_time(self):
        for text in ("", "C.0", "C.0 G.0"):
            self.assertOwn(lambda: scale_read(text))

    def test_what_is_handed_in_stays(self):
        scale = list(MAJOR)
        scale_text(scale)
        self.assertEqual(scale, MAJOR)


class Moving(ScaleCase):
    def test_known_ones(self):
        self.assertScale(scale_moved([ONE, FIFTH], FIFTH), [(-3, 2, 0, 0, 0), FIFTH])
        self.assertScale(scale_moved(loop(FIFTH, 7), power(FIFTH, -1)), scale_of(chain(power(FIFTH, -1), FIFTH, 7)))
        self.assertScale(scale_moved([], FIFTH), [])

    def test_by_one_and_by_octaves(self):
        for span in (ONE, OCTAVE, (-1, 0, 0, 0, 0), (600, 0, 0, 0, 0)):
            self.assertScale(scale_moved(MAJOR, span), MAJOR)

    def test_there_and_back(self):
        for span in (FIFTH, (5, 3, -2, 1, -4), (0, -29, 0, 0, 0)):
            there = scale_moved(MAJOR, span)
            self.assertScale(there, scale_by_numbers([times(tone, span) for tone in MAJOR]))
            self.assertScale(scale_moved(there, power(span, -1)), MAJOR)

    def test_where_powers_go_beyond_those_of_a_scale(self):
        for place in range(1, 5):
            for sign in (-1, 1):
                scale = [fold(unit(place, 20 * sign))]
                self.assertScale(scale_moved(scale, unit(place, 10 * sign)), [fold(unit(place, 30 * sign))])
                with self.assertRaises(TooFar):
                    scale_moved(scale, unit(place, 11 * sign))
                with self.assertRaises(TooFar):
                    scale_moved([ONE] + scale, unit(place, 11 * sign))

    def test_where_a_tone_is_none(self):
        # The octaves alone are too far: folded, these tones would do.
        for tone in (FIFTH, (-3, 2, 0, 0, 0)):
            with self.assertRaises(TooFar):
                scale_moved([tone], (-700, 0, 0, 0, 0))
        high = fold((0, -1, 0, 0, 0))
        self.assertEqual(high, (2, -1, 0, 0, 0))
        self.assertScale(scale_moved([high], (698, 0, 0, 0, 0)), [high])
        with self.assertRaises(TooFar):
            scale_moved([high], (699, 0, 0, 0, 0))
        with self.assertRaises(TooFar):
            scale_moved([ONE, high], (700, 0, 0, 0, 0))
        with self.assertRaises(TooFar):
            scale_moved([fold(unit(1, 30))], unit(1, 60))

    def test_what_is_handed_in_stays(self):
        scale = list(MAJOR)
        found = scale_moved(scale, OCTAVE)
        self.assertEqual(scale, MAJOR)
        scale.clear()
        self.assertEqual(found, MAJOR)

    def test_a_new_list_each_time(self):
        for scale in ([], [ONE], list(MAJOR)):
            self.assertOwn(lambda: scale_moved(scale, ONE))
            self.assertIsNot(scale_moved(scale, ONE), scale)


if __name__ == "__main__":
    unittest.main()
