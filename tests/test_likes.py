"""The move between two scales, or why there is none: points 2, 3 and 18."""

import itertools
import unittest

from helper import HIGHEST, Dice, fold, number
from tuningyard.likes import move_between
from tuningyard.rows import ONE, is_tone, over, power, row_of, times
from tuningyard.scales import gaps, loop, scale_moved, scale_of

FIFTH = (-1, 1, 0, 0, 0)
MAJOR = [row_of(top, bottom) for top, bottom in ((1, 1), (9, 8), (5, 4), (4, 3), (3, 2), (5, 3), (15, 8))]
MINOR = [row_of(top, bottom) for top, bottom in ((1, 1), (9, 8), (6, 5), (4, 3), (3, 2), (8, 5), (9, 5))]


class LikesCase(unittest.TestCase):
    def assertMove(self, one, other, span):
        found = move_between(one, other)
        self.assertEqual(found, ("move", span))
        self.assertIs(type(found), tuple)
        self.assertIs(is_tone(span), True)
        self.assertEqual(fold(span), span)
        self.assertEqual(scale_moved(one, span), other)

    def assertApart(self, one, other):
        """There is no move, and each span of the list is in one of both ways as the document tells it."""
        found = move_between(one, other)
        self.assertIs(type(found), tuple)
        self.assertEqual((len(found), found[0]), (2, "apart"))
        self.assertIs(type(found[1]), list)
        self.assertEqual(len(found[1]), len(other))
        for tone, span in zip(other, found[1]):
            self.assertIs(is_tone(span), True)
            self.assertTrue(1 <= number(span) < 2)
            here = fold(times(one[0], span)) in one
            there = fold(times(tone, span)) in other
            self.assertNotEqual(here, there)


class Moves(LikesCase):
    def test_a_scale_and_the_same_moved(self):
        for span in (FIFTH, (-2, 0, 1, 0, 0), (-3, 0, 0, 0, 1), (2, -1, 0, 0, 0)):
            self.assertMove(MAJOR, scale_moved(MAJOR, span), span)
            self.assertMove(scale_moved(MAJOR, span), MAJOR, fold(power(span, -1)))

    def test_spans_are_told_folded(self):
        for span in ((3, 1, 0, 0, 0), (-200, 0, 5, 0, -3), (0, -20, 20, 20, -20), (1, 0, 0, 0, 0)):
            self.assertMove(MAJOR, scale_moved(MAJOR, span), fold(span))

    def test_a_scale_and_itself(self):
        for scale in (MAJOR, MINOR, [FIFTH], loop(FIFTH, 31)):
            self.assertMove(scale, list(scale), ONE)

    def test_scales_of_one_tone(self):
        self.assertMove([FIFTH], [ONE], (2, -1, 0, 0, 0))
        self.assertMove([ONE], [FIFTH], FIFTH)

    def test_tones_at_the_bounds_of_scales(self):
        low = [fold((0, -30, -30, -30, -30))]
        high = [fold((0, 30, 30, 30, 30))]
        self.assertMove(low, high, fold((0, 60, 60, 60, 60)))
        self.assertMove(high, low, fold((0, -60, -60, -60, -60)))
        edges = [(0, 30 * a, 30 * b, 30 * c, 30 * d) for a, b, c, d in itertools.product((-1, 1), repeat=4)]
        for one, other in itertools.product(edges, repeat=2):
            self.assertMove([fold(one)], [fold(other)], fold(over(other, one)))

    def test_thrown_scales(self):
        dice = Dice(18)
        for count in range(1, 31):
            one = scale_of([dice.row(15) for _ in range(count)])
            span = fold(dice.row(15))
            self.assertMove(one, scale_moved(one, span), span)

    def test_without_tones(self):
        self.assertEqual(move_between([], []), ("move", ONE))


class Apart(LikesCase):
    def test_ordinary_scales(self):
        self.assertApart(MAJOR, MINOR)
        self.assertApart(MINOR, MAJOR)
        self.assertApart(MAJOR, loop(FIFTH, 7))
        self.assertApart(loop((-2, 0, 1, 0, 0), 7), loop(FIFTH, 7))

    def test_one_tone_is_another(self):
        for place in range(7):
            changed = scale_of(MAJOR[:place] + [times(MAJOR[place], (-4, 4, -1, 0, 0))] + MAJOR[place + 1:])
            self.assertApart(MAJOR, changed)
            self.assertApart(changed, MAJOR)

    def test_unlike_sizes(self):
        self.assertApart(MAJOR, MAJOR[:6])
        self.assertApart(MAJOR[:6], MAJOR)
        self.assertApart([ONE], [ONE, FIFTH])
        self.assertApart([ONE, FIFTH], [ONE])
        self.assertApart([ONE], MAJOR)
        self.assertApart(MAJOR, [ONE])
        self.assertApart(loop(FIFTH, 12), loop(FIFTH, 13))
        self.assertApart(loop(FIFTH, 13), loop(FIFTH, 12))

    def test_just_one_without_tones(self):
        self.assertEqual(move_between([], [ONE]), ("apart", []))
        self.assertEqual(move_between([ONE], []), ("apart", []))
        self.assertEqual(move_between([], MAJOR), ("apart", []))
        self.assertEqual(move_between(MAJOR, []), ("apart", []))

    def test_the_same_gaps_in_another_order(self):
        one = [ONE, row_of(9, 8), row_of(5, 4), row_of(3, 2)]
        other = [ONE, row_of(10, 9), row_of(5, 4), row_of(3, 2)]
        self.assertEqual(sorted(gaps(one)), sorted(gaps(other)))
        self.assertApart(one, other)

    def test_the_same_spans_each_as_often(self):
        # Of fifths in a chain: these have the same distances between all tones, but are no move of one another.
        one = scale_of([power(FIFTH, n) for n in (0, 1, 4, 10, 12, 17)])
        other = scale_of([power(FIFTH, n) for n in (0, 1, 8, 11, 13, 17)])
        spans = [
            sorted(fold(over(high, low)) for low, high in itertools.product(scale, repeat=2)) for scale in (one, other)
        ]
        self.assertEqual(spans[0], spans[1])
        self.assertApart(one, other)
        self.assertApart(other, one)

    def test_a_scale_and_its_mirror(self):
        mirror = scale_of([power(tone, -1) for tone in MINOR[:4]])
        self.assertApart(MINOR[:4], mirror)
        self.assertApart(mirror, MINOR[:4])

    def test_tones_at_the_bounds_of_scales(self):
        edges = scale_of([(0, 30 * a, 30 * b, 30 * c, 30 * d) for a, b, c, d in itertools.product((-1, 1), repeat=4)])
        self.assertEqual(len(edges), 16)
        self.assertApart(edges, edges[1:])
        self.assertApart(edges[:-1], edges)
        self.assertApart(edges, scale_of(edges[1:] + [ONE]))

    def test_thrown_scales(self):
        dice = Dice(81)
        for _ in range(60):
            one = scale_of([dice.row(1) for _ in range(dice.throw(1, 4))])
            other = scale_of([dice.row(1) for _ in range(dice.throw(1, 4))])
            moves = [
                fold(over(tone, one[0])) for tone in other
                if sorted(fold(times(each, over(tone, one[0]))) for each in one) == sorted(other)
            ]
            if moves:
                self.assertMove(one, other, moves[0])
            else:
                self.assertApart(one, other)

    def test_sixty_tones(self):
        one = scale_of([(0, a, b, 30, -30) for a in range(10) for b in range(6)])
        other = scale_of([(0, a, b, 30, -30) for a in range(6) for b in range(10)])
        self.assertEqual((len(one), len(other)), (60, 60))
        self.assertApart(one, other)
        self.assertMove(one, scale_moved(one, (0, -9, 0, -50, 50)), fold((0, -9, 0, -50, 50)))


class HandedIn(unittest.TestCase):
    def test_what_is_handed_in_stays(self):
        one = list(MAJOR)
        other = list(MINOR)
        found = move_between(one, other)
        self.assertEqual((one, other), (MAJOR, MINOR))
        kept = list(found[1])
        one.clear()
        other.append(HIGHEST)
        self.assertEqual(found[1], kept)

    def test_a_new_list_each_time(self):
        for one, other in ((MAJOR, MINOR), ([], [ONE]), ([ONE], [])):
            first = move_between(list(one), list(other))
            second = move_between(list(one), list(other))
            kept = list(second[1])
            self.assertIsNot(first[1], second[1])
            first[1].append(HIGHEST)
            self.assertEqual(second[1], kept)
            self.assertEqual(move_between(one, other), second)


if __name__ == "__main__":
    unittest.main()
