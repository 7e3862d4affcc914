"""Tunes written and read: points 2, 3, 31 and 32."""

import unittest

from helper import HIGHEST, LOWEST, Dice
from tuningyard.errors import BadBar, BadNote, NoTune, YardError
from tuningyard.names import name_of, named
from tuningyard.rows import ONE
from tuningyard.tunes import tune_read, tune_text

TEXT = "3/4: C.0=1/2 E-.0=1/4 | R=3/4"
THIRD = (-2, 0, 1, 0, 0)
TUNE = ((3, 4), [[(ONE, (1, 2)), (THIRD, (1, 4))], [(None, (3, 4))]])


def thrown_tune(dice):
    """A tune of quarters, whose bars have as many notes as the meter asks for."""
    count = dice.throw(1, 24)
    bars = []
    for _ in range(dice.throw(1, 40)):
        notes = [(dice.row(60) if dice.throw(0, 4) else None, (1, 4)) for _ in range(count)]
        bars.append(notes)
    top = count if count % 4 else count // 4
    bottom = 4 if count % 4 else 1
    if count % 4 == 2:
        top, bottom = count // 2, 2
    return ((top, bottom), bars)


class Case(unittest.TestCase):
    def assertTune(self, found, wanted):
        self.assertEqual(found, wanted)
        self.assertIs(type(found), tuple)
        self.assertLength(found[0])
        self.assertIs(type(found[1]), list)
        for bar in found[1]:
            self.assertIs(type(bar), list)
            for note in bar:
                self.assertEqual((type(note), len(note)), (tuple, 2))
                self.assertLength(note[1])
                if note[0] is not None:
                    self.assertEqual((type(note[0]), [type(entry) for entry in note[0]]), (tuple, [int] * 5))

    def assertLength(self, length):
        self.assertEqual((type(length), [type(entry) for entry in length]), (tuple, [int, int]))

    def assertNoTune(self, text):
        with self.assertRaises(NoTune, msg=text[:60]):
            tune_read(text)

    def assertBadBar(self, text, bar):
        with self.assertRaises(BadBar, msg=text[:60]) as caught:
            tune_read(text)
        self.assertEqual((type(caught.exception.bar), caught.exception.bar), (int, bar), text[:60])

    def assertBadNote(self, text, bar, place):
        with self.assertRaises(BadNote, msg=text[:60]) as caught:
            tune_read(text)
        self.assertEqual((caught.exception.bar, caught.exception.place), (bar, place), text[:60])
        self.assertEqual((type(caught.exception.bar), type(caught.exception.place)), (int, int))


class ThereAndBack(Case):
    def test_the_documents_own(self):
        self.assertTune(tune_read(TEXT), TUNE)
        self.assertEqual(tune_text(TUNE), TEXT)
        self.assertIs(type(tune_text(TUNE)), str)

    def test_one_note(self):
        for text, wanted in (
            ("1/1: C.0=1/1", ((1, 1), [[(ONE, (1, 1))]])),
            ("9999/1: R=9999/1", ((9999, 1), [[(None, (9999, 1))]])),
            ("1/9999: E-.0=1/9999", ((1, 9999), [[(THIRD, (1, 9999))]])),
        ):
            self.assertTune(tune_read(text), wanted)
            self.assertEqual(tune_text(wanted), text)

    def test_names_with_all_signs(self):
        for name in ("Bb<.0", "F^.0", "F##++>>^^.-12", "Cbb--<<vv.9", name_of(HIGHEST), name_of(LOWEST)):
            text = f"1/2: {name}=1/4 R=1/4 | {name}=1/2"
            self.assertTune(tune_read(text), (
                (1, 2), [[(named(name), (1, 4)), (None, (1, 4))], [(named(name), (1, 2))]]))
            self.assertEqual(tune_text(tune_read(text)), text)

    def test_thrown_ones(self):
        dice = Dice(91)
        for _ in range(12):
            tune = thrown_tune(dice)
            self.assertTune(tune_read(tune_text(tune)), tune)
            self.assertEqual(tune_text(tune_read(tune_text(tune))), tune_text(tune))

    def test_lengths_that_are_not_in_lowest_terms(self):
        self.assertTune(tune_read("6/8: C.0=2/4 E-.0=2/8 | R=9/12"), TUNE)
        self.assertEqual(tune_text(tune_read("6/8: C.0=2/4 E-.0=2/8 | R=9/12")), TEXT)
        self.assertTune(tune_read("4/4: C.0=2/2"), ((1, 1), [[(ONE, (1, 1))]]))

    def test_bars_of_unlike_lengths(self):
        text = "1/1: C.0=1/3 D.0=1/6 R=1/2 | R=1/7 C.1=6/7 | C.0=1/1"
        self.assertEqual(tune_text(tune_read(text)), text)
        self.assertEqual([len(bar) for bar in tune_read(text)[1]], [3, 2, 1])


class Counts(Case):
    def test_24_and_25_words(self):
        text = "6/1: " + " ".join(["C.0=1/4"] * 24)
        self.assertTune(tune_read(text), ((6, 1), [[(ONE, (1, 4))] * 24]))
        self.assertEqual(tune_text(tune_read(text)), text)
        self.assertBadBar("25/4: " + " ".join(["C.0=1/4"] * 25), 0)
        self.assertBadBar("1/4: R=1/4 | " + " ".join(["C.0=1/100"] * 25), 1)
        self.assertBadBar("6/1: " + text[5:] + " | " + " ".join(["R=6/25"] * 25) + " | x", 1)

    def test_too_many_words_go_ahead_of_words_that_are_none(self):
        self.assertBadBar("1/1: " + " ".join(["x"] * 25), 0)
        self.assertBadBar("1/1: " + " " * 24, 0)
        self.assertBadNote("1/1: " + " " * 23, 0, 0)
        self.assertBadNote("1/1: " + " ".join(["C.0=1/24"] * 23 + ["x"]), 0, 23)

    def test_40_and_41_bars(self):
        text = "1/4: " + " | ".join(["C.0=1/4"] * 40)
        self.assertTune(tune_read(text), ((1, 4), [[(ONE, (1, 4))]] * 40))
        self.assertEqual(tune_text(tune_read(text)), text)
        self.assertNoTune("1/4: " + " | ".join(["C.0=1/4"] * 41))
        self.assertNoTune("1/4: " + " | ".join(["C.0=1/4"] * 2000))
        self.assertBadNote("1/4: " + " | ".join(["C.0=1/4"] * 39 + ["x"]), 39, 0)
        self.assertBadBar("1/4: " + " | ".join(["C.0=1/4"] * 39 + ["C.0=1/2"]), 39)

    def test_too_many_bars_go_ahead_of_what_stands_in_them(self):
        for bar in ("x", "", "C.0=1/2", " ".join(["C.0=1/100"] * 25)):
            self.assertNoTune("1/4: " + " | ".join([bar] + ["C.0=1/4"] * 40))
            self.assertNoTune("1/4: " + " | ".join([bar] * 41))

    def test_40_bars_of_24_words(self):
        text = "6/1: " + " | ".join([" ".join(["C.0=1/4"] * 24)] * 40)
        self.assertEqual(tune_text(tune_read(text)), text)


class Meters(Case):
    def test_no_colon_and_blank(self):
        for text in (
            "", " ", ":", "3/4", "3/4:", "3/4:C.0=3/4", "3/4 :", "3/4 C.0=3/4", "C.0=3/4", "3/4 :C.0=3/4",
            "3/4:\nC.0=3/4", "3/4;C.0=3/4", "x" * 20000,
        ):
            self.assertNoTune(text)

    def test_meters_that_are_none(self):
        for meter in (
            "", " ", "3", "0/4", "3/0", "03/4", "10000/1", "1/10000", "3/4 ", " 3/4", "-3/4", "3//4", "x", "3:4",
        ):
            self.assertNoTune(f"{meter}: C.0=3/4")
            self.assertNoTune(f"{meter}: x")
            self.assertNoTune(f"{meter}: ")

    def test_the_first_colon_and_blank(self):
        self.assertBadNote("3/4: : C.0=3/4", 0, 0)
        self.assertBadNote("3/4: C.0=3/4: x", 0, 0)
        self.assertBadNote("3/4: R=3/4 | 3/4: R=3/4", 1, 0)
        self.assertNoTune("3/4:: C.0=3/4")
        self.assertNoTune("3/4:C.0=3/4: C.0=3/4")

    def test_bars_that_do_not_come_to_the_meter(self):
        for text, bar in (
            ("3/4: C.0=1/2", 0), ("3/4: C.0=1/1", 0), ("3/4: C.0=1/2 D.0=1/4 E.0=1/9999", 0), ("3/4: R=1/4", 0),
            ("3/4: C.0=3/4 | D.0=1/4", 1), ("3/4: C.0=3/4 | R=3/4 | R=1/4 R=1/4", 2), ("3/4: R=1/4 | R=1/4", 0),
            ("1/1: R=9999/1", 0), ("4/3: R=3/4", 0), ("3/4: R=4/3", 0),
        ):
            self.assertBadBar(text, bar)


class Notes(Case):
    def test_words_that_are_none(self):
        for word in (
            "", "x", "=", "R", "C.0", "1/4", "C.01/4", "R1/4",  # without `=`, or without all else
            "C.0==1/4", "C.0=1/4=", "C.0=1/4=1/4", "=C.0=1/4", "R==1/4", "C.0=R=1/4",  # with two
            "=1/4", "r=1/4", "RR=1/4", "R.0=1/4", "H.0=1/4", "c.0=1/4", "C=1/4", "C.-0=1/4", "C.00=1/4", "C.12345=1/4",
            "Cb#.0=1/4", "C" + "#" * 300 + ".0=1/4", "1/1=1/4",  # with a name that is none
            "C.701=1/4", "C.-9999=1/4", "C" + "^" * 61 + ".0=1/4",  # with a row that is no tone
            "C.0=", "C.0=x", "C.0=0/4", "C.0=1/0", "C.0=01/4", "C.0=1/04", "C.0=10000/1", "C.0=1/10000", "C.0=1",
            "C.0=-1/4", "C.0=1/4/1", "R=", "R=1", "R=0/1", "C.0=1/4,", "C.0=1/4|", "||", "C.0:=1/4",
        ):
            self.assertBadNote(f"1/4: {word}", 0, 0)
            self.assertBadNote(f"1/2: C.0=1/4 {word}", 0, 1)
            self.assertBadNote(f"1/2: {word} C.0=1/4", 0, 0)
            self.assertBadNote(f"1/2: R=1/2 | E-.0=1/4 {word} R=1/4 | R=1/2", 1, 1)

    def test_blanks(self):
        for text, bar, place in (
            ("1/4: ", 0, 0), ("1/4:  ", 0, 0), ("1/4:  C.0=1/4", 0, 0), ("1/4: C.0=1/4 ", 0, 1),
            ("1/2: C.0=1/4  C.0=1/4", 0, 1), ("1/4: C.0=1/4  | C.0=1/4", 0, 1), ("1/4: C.0=1/4 |  C.0=1/4", 1, 0),
            ("1/4: C.0=1/4 | C.0=1/4 ", 1, 1),
        ):
            self.assertBadNote(text, bar, place)

    def test_upright_strokes(self):
        for text, bar, place in (
            ("1/4: | C.0=1/4", 0, 0), ("1/4:  | C.0=1/4", 0, 0), ("1/4: C.0=1/4 |", 0, 1), ("1/4: C.0=1/4 | ", 1, 0),
            ("1/4: C.0=1/4 | | C.0=1/4", 1, 0), ("1/4: C.0=1/4 |  | C.0=1/4", 1, 0), ("1/4: C.0=1/4 || C.0=1/4", 0, 1),
            ("1/4: C.0=1/4|C.0=1/4", 0, 0), ("1/4: C.0=1/4 |C.0=1/4", 0, 1), ("1/4: C.0=1/4| C.0=1/4", 0, 0),
            ("1/4: |", 0, 0), ("1/4:  | ", 0, 0), ("1/4: | | |", 0, 0), ("1/4: R=1/4 | | | R=1/4", 1, 0),
            ("1/4: R=1/4 | R=1/4 | ", 2, 0),
        ):
            self.assertBadNote(text, bar, place)

    def test_strokes_that_lie_over_one_another(self):
        # Two strokes with one blank between are one bar line and a word, which counts among the words of its bar.
        self.assertBadNote("1/4: R=1/4 | | R=1/4", 1, 0)
        self.assertBadBar("1/4: R=1/4 | | " + " ".join(["R=1/4"] * 24), 1)
        # So these are 40 bars, not 41 or more.
        self.assertBadNote("1/4: " + " | ".join(["R=1/4"] * 39) + " | | R=1/4", 39, 0)
        self.assertNoTune("1/4: " + " | ".join(["R=1/4"] * 39) + " |  | R=1/4")


class WhichComesFirst(Case):
    def test_no_tune_goes_ahead_of_all(self):
        for text in ("0/4: x", "0/4: R=1/4 | x", "3/4:x", "0/4: " + " ".join(["R=1/4"] * 25)):
            self.assertNoTune(text)

    def test_bars_from_the_left(self):
        long = " ".join(["R=1/100"] * 25)
        for ahead, behind in (("x", long), ("x", "R=1/2"), ("x", "x"), ("R=1/4 x", "R=1/2")):
            self.assertBadNote(f"1/4: R=1/4 | {ahead} | {behind}", 1, len(ahead.split(" ")) - 1)
        for ahead in (long, "R=1/2", "R=1/8"):
            for behind in ("x", long, "R=1/2", ""):
                self.assertBadBar(f"1/4: R=1/4 | {ahead} | {behind}", 1)
                self.assertBadBar(f"1/4: {ahead} | {behind} | {behind}", 0)

    def test_within_a_bar(self):
        self.assertBadBar("1/4: " + " ".join(["x"] + ["R=1/100"] * 24), 0)
        self.assertBadNote("1/4: R=1/2 x", 0, 1)
        self.assertBadNote("1/4: R=9/1 R=9/1 R=0/1", 0, 2)
        self.assertBadNote("1/4: x y z", 0, 0)
        self.assertBadNote("1/4: R=1/4 C.701=1/4 x", 0, 1)
        self.assertBadNote("1/4: R=1/4 x=1/4 C.0=x", 0, 1)
        self.assertBadNote("1/4: C.0=x x=1/4", 0, 0)

    def test_three_faults(self):
        self.assertBadNote("1/4: R=1/4 | R=1/2 x | R=1/2 | y", 1, 1)
        self.assertBadBar("1/4: R=1/4 | R=1/2 | x | R=1/2", 1)

    def test_each_is_a_refusal(self):
        for text in ("", "1/4: x", "1/4: R=1/2"):
            with self.assertRaises(YardError):
                tune_read(text)


class HandedIn(Case):
    def test_what_is_read_is_the_askers_own(self):
        first = tune_read(TEXT)
        second = tune_read(TEXT)
        first[1][0].append(None)
        first[1][1].clear()
        first[1].append([])
        self.assertTune(second, TUNE)
        self.assertTune(tune_read(TEXT), TUNE)

    def test_bars_that_are_equal_are_lists_of_their_own(self):
        found = tune_read("1/4: R=1/4 | R=1/4")
        found[1][0].append(None)
        self.assertEqual(found[1][1], [(None, (1, 4))])

    def test_what_is_handed_in_stays(self):
        tune = ((3, 4), [[(ONE, (1, 2)), (THIRD, (1, 4))], [(None, (3, 4))]])
        text = tune_text(tune)
        self.assertEqual(tune, TUNE)
        tune[1].clear()
        self.assertEqual(text, TEXT)

    def test_a_refusal_leaves_nothing_behind(self):
        self.assertBadNote("3/4: C.0=1/2 x", 0, 1)
        self.assertTune(tune_read(TEXT), TUNE)
        self.assertBadBar("3/4: C.0=1/2", 0)
        self.assertTune(tune_read(TEXT), TUNE)


if __name__ == "__main__":
    unittest.main()
