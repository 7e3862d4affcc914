"""Tunes moved, heard and respelled: points 2, 3, 33 and 34."""

import copy
import itertools
import unittest

from helper import HIGHEST, LOWEST, Dice, heard_as
from tuningyard.errors import TooFar
from tuningyard.moves import heard_alike, moved, mover, respelled, sounds
from tuningyard.rows import ONE, is_tone, power, row_of, times
from tuningyard.tables import rest
from tuningyard.tunes import tune_read, tune_text
from tuningyard.tunings import Board, CommaTuning, KeyTuning, Tuning

OCTAVE = (1, 0, 0, 0, 0)
FIFTH = row_of(3, 2)
COMMA = row_of(81, 80)
DIESIS = row_of(128, 125)
TWELVE = (12, 19, 28, 34, 42)
TEXT = "3/4: C.0=1/2 E-.0=1/4 | R=3/4 | R=1/4 Bb<.1=1/2 | F^.-2=3/4"
TUNINGS = (
    Tuning(), CommaTuning([]), CommaTuning([COMMA]), CommaTuning([COMMA, DIESIS]), CommaTuning([OCTAVE]),
    CommaTuning([power(COMMA, 2)]), KeyTuning([]), KeyTuning([(TWELVE, 0)]), KeyTuning([(TWELVE, 12), (OCTAVE, 3)]),
    Board(TWELVE), Board((19, 30, 44, 53, 66)), Board(OCTAVE),
)
SPANS = (
    ONE, OCTAVE, (-1, 0, 0, 0, 0), FIFTH, COMMA, power(COMMA, 2), power(COMMA, -3), DIESIS, (3, 0, 0, 0, 0),
    row_of(5, 4), times(COMMA, DIESIS), row_of(225, 224), row_of(12, 11),
)


def tones_in(tune):
    """All tones of a tune."""
    return [tone for bar in tune[1] for tone, _ in bar if tone is not None]


def thrown_tune(dice, bound):
    """A tune with tones within a bound, and with rests."""
    bars = [[(dice.row(bound) if dice.throw(0, 3) else None, (1, 4)) for _ in range(3)] for _ in range(3)]
    return ((3, 4), bars)


class Case(unittest.TestCase):
    def assertForm(self, found, tune):
        """Meter, bars, rests and lengths are those of the tune, lists are lists, and none is the tune's own."""
        self.assertEqual((type(found), len(found), type(found[1])), (tuple, 2, list))
        self.assertEqual(found[0], tune[0])
        self.assertEqual(len(found[1]), len(tune[1]))
        self.assertIsNot(found[1], tune[1])
        for bar, other in zip(found[1], tune[1]):
            self.assertIs(type(bar), list)
            self.assertIsNot(bar, other)
            self.assertEqual([type(note) for note in bar], [tuple] * len(other))
            self.assertEqual([length for _, length in bar], [length for _, length in other])
            self.assertEqual([tone is None for tone, _ in bar], [tone is None for tone, _ in other])

    def assertOwn(self, ask):
        """What is asked tells new lists each time, and the asker's own."""
        first = ask()
        second = ask()
        kept = copy.deepcopy(second)
        self.assertIsNot(first[1], second[1])
        first[1][0].append(None)
        first[1].pop()
        self.assertEqual(second, kept)
        self.assertEqual(ask(), kept)


class Moving(Case):
    def test_known_ones(self):
        for text, span, wanted in (
            ("1/1: C.0=1/1", (3, 2), "1/1: G.0=1/1"), ("1/1: G.0=1/1", (2, 3), "1/1: C.0=1/1"),
            ("1/2: C.0=1/4 R=1/4 | E-.0=1/2", (2, 1), "1/2: C.1=1/4 R=1/4 | E-.1=1/2"),
            ("1/2: R=1/2 | C.0=1/2", (5, 4), "1/2: R=1/2 | E-.0=1/2"),
        ):
            self.assertEqual(tune_text(moved(tune_read(text), row_of(*span))), wanted)

    def test_each_tone_is_multiplied(self):
        for span in SPANS:
            tune = tune_read(TEXT)
            found = moved(tune, span)
            self.assertForm(found, tune)
            self.assertEqual(tones_in(found), [times(tone, span) for tone in tones_in(tune)])

    def test_by_one(self):
        self.assertEqual(moved(tune_read(TEXT), ONE), tune_read(TEXT))
        self.assertEqual(moved(tune_read("1/1: R=1/1"), ONE), tune_read("1/1: R=1/1"))

    def test_rests_alone(self):
        tune = tune_read("1/2: R=1/4 R=1/4 | R=1/2")
        for span in (FIFTH, HIGHEST, LOWEST):
            self.assertEqual(moved(tune, span), tune)

    def test_there_and_back_is_the_same_text(self):
        for span in SPANS:
            there = moved(tune_read(TEXT), span)
            self.assertEqual(tune_text(moved(there, power(span, -1))), TEXT)
            self.assertEqual(tune_text(there) == TEXT, span == ONE)
        dice = Dice(101)
        for _ in range(30):
            tune = thrown_tune(dice, 30)
            span = dice.row(30)
            self.assertEqual(tune_text(moved(moved(tune, span), power(span, -1))), tune_text(tune))

    def test_by_two_spans(self):
        tune = tune_read(TEXT)
        self.assertEqual(moved(moved(tune, FIFTH), COMMA), moved(tune, times(FIFTH, COMMA)))

    def test_too_far(self):
        for text in ("1/1: C.1=1/1", "1/2: C.0=1/4 C.1=1/4", "1/4: C.0=1/4 | R=1/4 | C.1=1/4", "1/2: C.1=1/4 C.0=1/4"):
            with self.assertRaises(TooFar):
                moved(tune_read(text), (700, 0, 0, 0, 0))
        self.assertEqual(tones_in(moved(tune_read("1/1: C.0=1/1"), (700, 0, 0, 0, 0))), [(700, 0, 0, 0, 0)])
        self.assertEqual(tones_in(moved(tune_read("1/1: C.-1=1/1"), (-699, 0, 0, 0, 0))), [(-700, 0, 0, 0, 0)])
        with self.assertRaises(TooFar):
            moved(tune_read("1/1: C.-1=1/1"), (-700, 0, 0, 0, 0))
        for place in range(1, 5):
            for sign in (-1, 1):
                unit = tuple(sign if here == place else 0 for here in range(5))
                tune = ((1, 4), [[(power(unit, 59), (1, 4))]])
                self.assertEqual(tones_in(moved(tune, unit)), [power(unit, 60)])
                with self.assertRaises(TooFar):
                    moved(tune, power(unit, 2))
                with self.assertRaises(TooFar):
                    moved(tune, power(unit, 60))

    def test_what_is_handed_in_stays(self):
        tune = tune_read(TEXT)
        found = moved(tune, FIFTH)
        self.assertEqual(tune, tune_read(TEXT))
        kept = copy.deepcopy(found)
        tune[1][0].clear()
        tune[1].clear()
        self.assertEqual(found, kept)
        tune = tune_read("1/2: C.0=1/4 C.1=1/4")
        with self.assertRaises(TooFar):
            moved(tune, (700, 0, 0, 0, 0))
        self.assertEqual(tune, tune_read("1/2: C.0=1/4 C.1=1/4"))

    def test_new_lists_each_time(self):
        tune = tune_read(TEXT)
        for span in (ONE, FIFTH):
            self.assertOwn(lambda: moved(tune, span))
        rests = tune_read("1/2: R=1/2")
        self.assertOwn(lambda: moved(rests, FIFTH))


class Movers(Case):
    def test_as_moving_does(self):
        for span in SPANS:
            for text in (TEXT, "1/1: R=1/1", "1/1: C.0=1/1"):
                self.assertEqual(mover(span)(tune_read(text)), moved(tune_read(text), span))

    def test_two_made_one_behind_the_other_and_asked_in_turn(self):
        up = mover(FIFTH)
        down = mover(power(FIFTH, -1))
        tune = tune_read(TEXT)
        for _ in range(3):
            self.assertEqual(up(tune), moved(tune, FIFTH))
            self.assertEqual(down(tune), moved(tune, power(FIFTH, -1)))
            self.assertEqual(tune_text(down(up(tune))), TEXT)
        movers = [mover(span) for span in SPANS]
        for move, span in zip(movers, SPANS):
            self.assertEqual(move(tune), moved(tune, span))

    def test_asked_again_behind_a_refusal(self):
        move = mover((700, 0, 0, 0, 0))
        low = tune_read("1/1: C.0=1/1")
        self.assertEqual(tune_text(move(low)), "1/1: C.700=1/1")
        for _ in range(2):
            with self.assertRaises(TooFar):
                move(tune_read("1/2: C.0=1/4 C.1=1/4"))
            self.assertEqual(tune_text(move(low)), "1/1: C.700=1/1")

    def test_what_is_handed_in_stays(self):
        tune = tune_read(TEXT)
        move = mover(FIFTH)
        first = move(tune)
        self.assertForm(first, tune)
        self.assertEqual(tune, tune_read(TEXT))
        self.assertOwn(lambda: move(tune))
        self.assertEqual(first, moved(tune, FIFTH))


class Sounds(Case):
    def test_known_ones(self):
        tune = tune_read("3/4: C.0=1/2 E-.0=1/4 | R=3/4")
        self.assertEqual(sounds(Tuning(), tune), tune)
        self.assertEqual(
            sounds(CommaTuning([COMMA]), tune),
            ((3, 4), [[(ONE, (1, 2)), ((-6, 4, 0, 0, 0), (1, 4))], [(None, (3, 4))]]))
        self.assertEqual(
            sounds(KeyTuning([(TWELVE, 0), (TWELVE, 3)]), tune),
            ((3, 4), [[((0, 0), (1, 2)), ((4, 1), (1, 4))], [(None, (3, 4))]]))
        self.assertEqual(
            sounds(Board(TWELVE), tune), ((3, 4), [[(0, (1, 2)), (4, (1, 4))], [(None, (3, 4))]]))

    def test_in_each_tuning(self):
        dice = Dice(102)
        for tuning in TUNINGS:
            for tune in (tune_read(TEXT), thrown_tune(dice, 60), tune_read("1/1: R=1/1")):
                found = sounds(tuning, tune)
                self.assertForm(found, tune)
                self.assertEqual(tones_in(found), [tuning.sound(tone) for tone in tones_in(tune)])

    def test_no_keys_hear_a_tone_as_an_empty_tuple_and_a_rest_as_none(self):
        found = sounds(KeyTuning([]), tune_read("1/2: R=1/4 C.0=1/4"))
        self.assertEqual(found, ((1, 2), [[(None, (1, 4)), ((), (1, 4))]]))

    def test_rests_by_commas_may_be_no_tones(self):
        tuning = CommaTuning([(-3, 60, 0, 0, 0)])
        found = tones_in(sounds(tuning, tune_read("1/1: F.-700=1/1")))
        self.assertEqual(found, [rest([(-3, 60, 0, 0, 0)], (-698, -1, 0, 0, 0))])
        self.assertFalse(is_tone(found[0]))

    def test_what_is_handed_in_stays_and_new_lists_each_time(self):
        for tuning in TUNINGS:
            tune = tune_read(TEXT)
            self.assertOwn(lambda: sounds(tuning, tune))
            self.assertEqual(tune, tune_read(TEXT))


class Alike(Case):
    def assertAlike(self, tuning, one, other, wanted):
        for first, second in ((one, other), (other, one)):
            self.assertIs(heard_alike(tuning, tune_read(first), tune_read(second)), wanted)
        for text in (one, other):
            self.assertIs(heard_alike(tuning, tune_read(text), tune_read(text)), True)

    def test_known_ones(self):
        just = "1/2: C.0=1/4 E-.0=1/4"
        fifths = "1/2: C.0=1/4 E.0=1/4"
        for tuning, wanted in (
            (Tuning(), False), (CommaTuning([]), False), (CommaTuning([COMMA]), True), (CommaTuning([DIESIS]), False),
            (CommaTuning([power(COMMA, 2)]), False), (KeyTuning([(TWELVE, 0)]), True), (Board(TWELVE), True),
            (KeyTuning([]), True), (KeyTuning([(OCTAVE, 0)]), False), (Board((53, 84, 123, 149, 183)), False),
        ):
            self.assertAlike(tuning, just, fifths, wanted)

    def test_other_meters_bars_rests_and_lengths(self):
        for tuning in TUNINGS:
            for one, other in (
                ("1/2: C.0=1/2", "1/4: C.0=1/4"),
                ("1/2: C.0=1/2 | C.0=1/2", "1/2: C.0=1/2"),
                ("1/2: C.0=1/4 C.0=1/4", "1/2: C.0=1/2"),
                ("1/2: C.0=1/4 C.0=1/4", "1/4: C.0=1/4 | C.0=1/4"),
                ("1/2: C.0=1/2", "1/2: R=1/2"),
                ("1/2: C.0=1/4 R=1/4", "1/2: R=1/4 C.0=1/4"),
                ("1/2: C.0=1/8 C.0=3/8", "1/2: C.0=3/8 C.0=1/8"),
                ("1/2: C.0=1/8 R=3/8", "1/2: C.0=3/8 R=1/8"),
            ):
                self.assertAlike(tuning, one, other, False)
            self.assertAlike(tuning, "2/4: C.0=2/8 R=3/12", "1/2: C.0=1/4 R=1/4", True)

    def test_rests_alone(self):
        for tuning in TUNINGS:
            self.assertAlike(tuning, "1/2: R=1/4 R=1/4 | R=1/2", "1/2: R=1/4 R=1/4 | R=1/2", True)
            self.assertAlike(tuning, "1/2: R=1/4 R=1/4", "1/2: R=1/2", False)

    def test_the_order_of_tones(self):
        for tuning in TUNINGS:
            wanted = tuning.sound(ONE) == tuning.sound(FIFTH)
            self.assertAlike(tuning, "1/2: C.0=1/4 G.0=1/4", "1/2: G.0=1/4 C.0=1/4", wanted)

    def test_a_moved_tune_with_a_tone_just_where_the_span_is_heard_as_nothing(self):
        seen = []
        for tuning, span in itertools.product(TUNINGS, SPANS):
            nothing = tuning.alike(span, ONE)
            seen.append(nothing)
            for text in (TEXT, "1/1: C.0=1/1", "1/2: R=1/4 F^.-2=1/4"):
                self.assertIs(heard_alike(tuning, tune_read(text), moved(tune_read(text), span)), nothing)
            rests = tune_read("1/2: R=1/2 | R=1/2")
            self.assertIs(heard_alike(tuning, rests, moved(rests, span)), True)
        self.assertEqual(set(seen), {True, False})

    def test_values_by_keys(self):
        tune = tune_read(TEXT)
        for span in SPANS:
            for key in ((TWELVE, 0), (TWELVE, 12), (OCTAVE, 2)):
                self.assertIs(heard_alike(KeyTuning([key]), tune, moved(tune, span)), heard_as(key, span) == 0)

    def test_what_is_handed_in_stays(self):
        one = tune_read(TEXT)
        other = moved(one, COMMA)
        kept = copy.deepcopy(other)
        for tuning in TUNINGS:
            heard_alike(tuning, one, other)
        self.assertEqual((one, other), (tune_read(TEXT), kept))


class Respelling(Case):
    def test_known_ones(self):
        tuning = CommaTuning([COMMA])
        self.assertEqual(
            tune_text(respelled(tuning, tune_read("3/4: C.0=1/2 E-.0=1/4 | R=3/4"))), "3/4: C.0=1/2 E.0=1/4 | R=3/4")
        self.assertEqual(respelled(CommaTuning([]), tune_read(TEXT)), tune_read(TEXT))
        self.assertEqual(respelled(CommaTuning([ONE]), tune_read(TEXT)), tune_read(TEXT))

    def test_each_tone_is_its_rest(self):
        dice = Dice(103)
        for commas in ([], [COMMA], [DIESIS, COMMA], [OCTAVE], [power(COMMA, 2)], [row_of(225, 224), row_of(100, 99)]):
            for tune in (tune_read(TEXT), thrown_tune(dice, 5)):
                found = respelled(CommaTuning(commas), tune)
                self.assertForm(found, tune)
                self.assertEqual(tones_in(found), [rest(commas, tone) for tone in tones_in(tune)])

    def test_twice(self):
        for commas in ([], [COMMA], [DIESIS, COMMA], [OCTAVE], [power(COMMA, 2)]):
            tuning = CommaTuning(commas)
            once = respelled(tuning, tune_read(TEXT))
            self.assertEqual(respelled(tuning, once), once)
            self.assertIs(heard_alike(tuning, once, tune_read(TEXT)), True)

    def test_rests_alone(self):
        tune = tune_read("1/2: R=1/4 R=1/4 | R=1/2")
        self.assertEqual(respelled(CommaTuning([LOWEST]), tune), tune)

    def test_too_far(self):
        tuning = CommaTuning([(-3, 60, 0, 0, 0)])
        self.assertEqual(tones_in(respelled(tuning, tune_read("1/1: F.0=1/1"))), [(-1, 59, 0, 0, 0)])
        for text in ("1/1: F.-700=1/1", "1/2: C.0=1/4 F.-700=1/4", "1/4: F.-700=1/4 | R=1/4 | C.0=1/4"):
            with self.assertRaises(TooFar):
                respelled(tuning, tune_read(text))
        # The rest goes beyond in its power of 3, where the power of 5 is put away.
        tuning = CommaTuning([(0, 31, 1, 0, 0)])
        self.assertEqual(tones_in(respelled(tuning, tune_read("1/1: E-.0=1/1"))), [(-2, -31, 0, 0, 0)])
        two = ((1, 1), [[((0, 0, 2, 0, 0), (1, 1))]])
        with self.assertRaises(TooFar):
            respelled(tuning, two)
        self.assertEqual(tones_in(sounds(tuning, two)), [(0, -62, 0, 0, 0)])

    def test_heard_alike_just_where_respelled_the_same(self):
        dice = Dice(104)
        tune = tune_read(TEXT)
        seen = []
        for commas in ([], [COMMA], [DIESIS, COMMA], [OCTAVE], [power(COMMA, 2)]):
            tuning = CommaTuning(commas)
            for span, other in itertools.product(SPANS, (tune, thrown_tune(dice, 3), tune_read("1/1: R=1/1"))):
                for changed in (moved(tune, span), moved(other, span)):
                    same = respelled(tuning, tune) == respelled(tuning, changed)
                    seen.append(same)
                    self.assertIs(heard_alike(tuning, tune, changed), same)
        self.assertEqual(set(seen), {True, False})

    def test_one_tone_by_a_comma(self):
        tuning = CommaTuning([COMMA, DIESIS])
        tune = tune_read(TEXT)
        for span in SPANS:
            bars = [[(times(tone, span) if tone == (-2, 0, 1, 0, 0) else tone, length) for tone, length in bar]
                    for bar in tune[1]]
            other = (tune[0], bars)
            same = tuning.alike(span, ONE)
            self.assertIs(heard_alike(tuning, tune, other), same)
            self.assertIs(respelled(tuning, tune) == respelled(tuning, other), same)

    def test_what_is_handed_in_stays_and_new_lists_each_time(self):
        tune = tune_read(TEXT)
        for commas in ([], [COMMA]):
            tuning = CommaTuning(commas)
            self.assertOwn(lambda: respelled(tuning, tune))
            self.assertEqual(tune, tune_read(TEXT))


if __name__ == "__main__":
    unittest.main()
