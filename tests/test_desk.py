"""The desk: points 2, 39 and 40."""

import copy
import unittest

from helper import Dice
from tuningyard.desk import Desk
from tuningyard.errors import (
    BadBar, BadNote, NoBoard, NoChord, NoCommas, NoKeys, NoLine, NoName, NoNote, NoSpan, NoStack, NoTune, TooFar,
    YardError,
)
from tuningyard.keys import values
from tuningyard.leading import least_steps
from tuningyard.moves import moved
from tuningyard.names import name_of, named
from tuningyard.rows import row_of
from tuningyard.spans import span_read
from tuningyard.stacks import stack_read, tones_of
from tuningyard.tunes import tune_read, tune_text
from tuningyard.tunings import Board
from tuningyard.ways import held

TUNE = "3/4: C.0=1/2 E-.0=1/4 | R=3/4"
SEVENTH = "1/1(5/4(6/5) 7/4)"
TWELVE = "key 12 19 28 34 42"
# Each class of refusal for a span: texts that are none, and spans that are no tone.
NO_SPANS = ("", "1", "5/0", "05/4", "13/1", "x", "-1/2", "5/4/3", "1" * 61 + "/1", "C.0", "81:80")
FAR_SPANS = (f"{3 ** 61}/1", f"1/{5 ** 61}", f"{7 ** 61}/{11 ** 57}")
NO_NAMES = (
    "", "A", "aB", "a1", "a.b", "a_b", "abcdefghi", "a" * 300, "1", "-", "C.0", "\u00e4", "\u00df", "(", "a/b", "a|b",
)
NO_NUMBERS = (
    "", "-", "-0", "00", "01", "-01", "10000", "-10000", "12345", "+1", "1.0", "x", "1/1", "--1", "\u0661", "1_0",
)
READS = (
    "comma 1/1", "key 0 0 0 0 0", "ring 2 0 0 0 0 0", "nothing 81/80", "nothing 128/125", "nothing 2/1", "nothing 1/1",
    "sound 3/2", "sound 5/4", "sound 7/4", "sound 11/8", "sound 2/1", "same", "show a", "show b", "show c",
    "alike a b", "alike b a", "alike a a", "alike b c", "steps a b", "steps b a", "steps a c", "steps c c",
    "move a 3/2", "move b 1/2",
)


def answer(desk, line):
    """What the desk answers, or the class of its refusal."""
    try:
        return desk.told(line)
    except YardError as refusal:
        return type(refusal)


def all_answers(desk):
    """What a desk answers to many lines, each as if it were the next one; the desk stays as it is."""
    return [answer(copy.deepcopy(desk), line) for line in READS]


class Case(unittest.TestCase):
    def assertAnswers(self, desk, lines):
        for line, wanted in lines:
            found = desk.told(line)
            self.assertEqual((type(found), found), (str, wanted), line)

    def assertRefused(self, desk, line, refusal):
        """The line is refused just so, and all is answered as ahead."""
        ahead = all_answers(desk)
        with self.assertRaises(YardError, msg=line[:80]) as caught:
            desk.told(line)
        self.assertIs(type(caught.exception), refusal, line[:80])
        self.assertEqual(all_answers(desk), ahead, line[:80])
        return caught.exception

    def desk(self, *lines):
        """A desk that was told these lines."""
        made = Desk()
        for line in lines:
            made.told(line)
        return made

    def full_desk(self):
        """A desk that keeps something of each sort."""
        return self.desk(
            "comma 81/80", "comma 128/125", TWELVE, "ring 5 1 2 3 4 5", f"tune a {TUNE}", "tune b 1/2: R=1/4 G.0=1/4",
            f"chord a C.0 {SEVENTH}", f"chord b F.0 {SEVENTH}", "chord c G.0 1/1",
        )


class Forms(Case):
    def test_no_such_first_word(self):
        for line in (
            "", " ", "  ", "Comma 81/80", "commas 81/80", "comm", "comma,81/80", "x", "81/80", "told", "COMMA 81/80",
            "SPAN", " comma 81/80", " same", "  same", "same,", "tunes a", "rings", "keys 1 2 3 4 5", "comma\n81/80",
            "comma\t81/80", "-", "help", "nothing/1", "forgotten", "0", "None",
        ):
            self.assertRefused(self.full_desk(), line, NoLine)

    def test_too_few_and_too_many_words(self):
        for line in (
            "comma", "comma 81/80 2/1", "key", "key 1 2 3 4", "key 1 2 3 4 5 6", "ring", "ring 1 2 3 4 5",
            "ring 2 2 3 4 5 6 7", "nothing", "nothing 1/1 1/1", "sound", "sound 1/1 1/1", "same same", "same 1",
            "forget all", "forget 1 2", "tune", "tune a", "move", "move a", "move a 1/1 1/1", "move 1/1", "show",
            "show a b", "alike", "alike a", "alike a a a", "chord", "chord a", "chord a C.0", "steps", "steps a",
            "steps a a a",
        ):
            self.assertRefused(self.full_desk(), line, NoLine)

    def test_blanks_count_as_words(self):
        for line in (
            "comma  81/80", "comma 81/80 ", "comma  ", "same ", "same  ", "forget ", "forget  ", "show a ", "show  a",
            "nothing 1/1 ", "nothing  1/1", "sound  1/1", "key 1 2 3 4 5 ", "key  1 2 3 4 5", "key 1 2  3 4 5",
            "ring  2 1 2 3 4 5", "ring 2 1 2 3 4 5 ", "move a  1/1", "move  a 1/1", "move a 1/1 ", "alike a  a",
            "alike  a a", "alike a a ", "steps a  a", "steps a a ", "steps  a a", "tune ", "chord ", "chord  ",
            "chord a ", " tune a 1/4: R=1/4", " chord a C.0 1/1", " show a",
        ):
            self.assertRefused(self.full_desk(), line, NoLine)

    def test_a_word_without_signs_in_a_words_place(self):
        desk = self.full_desk()
        for line, refusal in (
            ("comma ", NoSpan), ("nothing ", NoSpan), ("sound ", NoSpan), ("show ", NoNote), ("move  1/1", NoNote),
            ("move a ", NoSpan), ("alike  a", NoNote), ("alike a ", NoNote), ("alike  ", NoNote), ("steps  a", NoNote),
            ("steps a ", NoNote), ("tune  ", NoNote), ("tune a ", NoTune), ("tune  1/4: R=1/4", NoNote),
            ("tune  a 1/4: R=1/4", NoNote), ("tune a  1/4: R=1/4", NoTune), ("chord  C.0 1/1", NoNote),
            ("chord a  1/1", NoName), ("chord a C.0 ", NoStack), ("chord a C.0  1/1", NoStack), ("chord   ", NoNote),
            ("chord a  C.0 1/1", NoName), ("chord  a C.0 1/1", NoNote), ("key 1 2 3 4 ", NoLine),
            ("key  2 3 4 5", NoLine), ("ring  1 2 3 4 5", NoLine), ("chord a C.0 1/1 ", NoStack),
            ("tune a 1/4: R=1/4 ", BadNote),
        ):
            self.assertRefused(desk, line, refusal)

    def test_numbers_that_are_none(self):
        desk = self.full_desk()
        for number in NO_NUMBERS:
            for place in range(5):
                row = ["1", "2", "3", "4", "5"]
                row[place] = number
                self.assertRefused(desk, "key " + " ".join(row), NoLine)
                self.assertRefused(desk, "ring 2 " + " ".join(row), NoLine)
            self.assertRefused(desk, f"ring {number} 1 2 3 4 5", NoLine)

    def test_numbers_go_ahead_of_what_is_done(self):
        desk = self.desk(*[TWELVE] * 6)
        self.assertRefused(desk, "key 1 2 3 4 05", NoLine)
        self.assertRefused(desk, "ring 1 2 3 4 5 x", NoLine)
        self.assertRefused(desk, "ring -1 1 1 1 1 -0", NoLine)


class Commas(Case):
    def test_answers_how_many(self):
        desk = Desk()
        for count in range(1, 7):
            self.assertAnswers(desk, [("comma 81/80", str(count))])

    def test_a_seventh(self):
        desk = self.desk(*["comma 81/80"] * 6)
        self.assertRefused(desk, "comma 81/80", NoCommas)
        self.assertRefused(desk, "comma 1/1", NoCommas)
        self.assertRefused(desk, "comma 81/80", NoCommas)
        self.assertAnswers(desk, [("nothing 81/80", "yes"), ("forget", "forgotten"), ("comma 2/1", "1")])

    def test_the_span_goes_ahead_of_a_seventh(self):
        desk = self.desk(*["comma 81/80"] * 6)
        for span in NO_SPANS:
            self.assertRefused(desk, f"comma {span}", NoSpan)
        for span in FAR_SPANS:
            self.assertRefused(desk, f"comma {span}", TooFar)

    def test_spans_that_are_none(self):
        for desk in (Desk(), self.full_desk()):
            for word in ("comma", "nothing", "sound"):
                for span in NO_SPANS:
                    self.assertRefused(desk, f"{word} {span}", NoSpan)
                for span in FAR_SPANS:
                    self.assertRefused(desk, f"{word} {span}", TooFar)

    def test_nothing(self):
        desk = Desk()
        self.assertAnswers(desk, [("nothing 1/1", "yes"), ("nothing 81/80", "no"), ("nothing 4/4", "yes")])
        self.assertAnswers(desk, [("comma 162/160", "1"), ("nothing 81/80", "yes"), ("nothing 80/81", "yes")])
        self.assertAnswers(desk, [("nothing 6561/6400", "yes"), ("nothing 128/125", "no"), ("nothing 2/1", "no")])
        self.assertAnswers(desk, [
            ("comma 16384/15625", "2"), ("nothing 128/125", "no"), ("nothing 16384/15625", "yes"),
        ])
        self.assertAnswers(desk, [
            ("comma 128/125", "3"), ("nothing 128/125", "yes"), ("nothing 531441/524288", "yes"),
        ])
        self.assertAnswers(desk, [("comma 1/1", "4"), ("nothing 5/4", "no")])


class Keys(Case):
    def test_answers_how_many(self):
        desk = Desk()
        self.assertAnswers(desk, [
            (TWELVE, "1"), ("ring 12 12 19 28 34 42", "2"), ("key 0 0 0 0 0", "3"), ("ring 2 -1 -2 -3 -4 -5", "4"),
            ("ring 0 9999 -9999 1 0 -1", "5"), ("key 9999 -9999 1000 -1000 10", "6"),
        ])
        self.assertAnswers(desk, [("sound 3/2", "7 7 0 1 -19998 -19998")])

    def test_a_seventh(self):
        desk = self.desk(*[TWELVE] * 3, *["ring 12 1 2 3 4 5"] * 3)
        for line in (TWELVE, "ring 0 1 2 3 4 5", "ring 12 1 2 3 4 5", "ring 1 1 2 3 4 5", "ring -3 1 2 3 4 5"):
            self.assertRefused(desk, line, NoKeys)
        self.assertAnswers(desk, [("forget", "forgotten"), ("ring 2 1 0 0 0 0", "1"), (TWELVE, "2")])

    def test_rings(self):
        desk = Desk()
        for ring in ("1", "-1", "-2", "-9999"):
            self.assertRefused(desk, f"ring {ring} 12 19 28 34 42", NoKeys)
        self.assertAnswers(desk, [
            ("ring 0 12 19 28 34 42", "1"), ("ring 2 12 19 28 34 42", "2"), ("ring 9999 12 19 28 34 42", "3"),
            ("sound 3/2", "7 1 7"), ("sound 2/3", "-7 1 9992"),
        ])

    def test_sound(self):
        desk = Desk()
        self.assertAnswers(desk, [("sound 3/2", ""), ("sound 1/1", "")])
        self.assertAnswers(desk, [(TWELVE, "1"), ("sound 3/2", "7"), ("sound 6/4", "7"), ("sound 1/1", "0")])
        self.assertAnswers(desk, [("ring 5 1 0 0 0 0", "2"), ("sound 3/2", "7 4"), ("sound 2/3", "-7 1")])

    def test_sounds_are_values(self):
        dice = Dice(131)
        for count in range(7):
            desk = Desk()
            keys = []
            for _ in range(count):
                row = dice.row(9999)
                ring = (0, 2, 12, 9999)[dice.throw(0, 3)]
                keys.append((row, ring))
                words = " ".join(str(entry) for entry in row)
                desk.told(f"ring {ring} {words}")
            for span in ("3/2", "5/4", "7/4", "11/8", "1/1", "81/80", f"1/{2 ** 150}"):
                self.assertAnswers(desk, [(f"sound {span}", " ".join(str(n) for n in values(keys, span_read(span))))])


class Same(Case):
    def test_none_of_both(self):
        self.assertAnswers(Desk(), [("same", "span")])

    def test_known_ones(self):
        desk = Desk()
        self.assertAnswers(desk, [(TWELVE, "1"), ("same", "span"), ("comma 81/80", "1"), ("same", "span")])
        for number, span in enumerate(("128/125", "64/63", "225/224", "99/98"), start=2):
            self.assertAnswers(desk, [(f"comma {span}", str(number))])
        self.assertAnswers(desk, [("same", "same"), ("comma 3/2", "6"), ("same", "comma 5"), ("forget", "forgotten")])
        self.assertAnswers(desk, [("comma 2/1", "1"), (TWELVE, "1"), ("comma 3/2", "2"), ("same", "comma 0")])

    def test_commas_alone_and_keys_alone(self):
        desk = self.desk("comma 2/1", "comma 3/1", "comma 5/1", "comma 7/1")
        self.assertAnswers(desk, [("same", "span"), ("comma 11/1", "5"), ("same", "same")])
        desk = self.desk("key 1 0 0 0 0", "key 0 1 0 0 0", "key 0 0 1 0 0", "key 0 0 0 1 0")
        self.assertAnswers(desk, [("same", "span"), ("key 0 0 0 0 1", "5"), ("same", "same"), ("comma 1/1", "1")])
        self.assertAnswers(desk, [("same", "same"), ("comma 2/1", "2"), ("same", "comma 1")])

    def test_as_held(self):
        dice = Dice(132)
        spans = ("81/80", "128/125", "64/63", "225/224", "99/98", "2/1", "3/1", "1/1")
        rows = ((12, 19, 28, 34, 42), (19, 30, 44, 53, 66), (0, 0, 0, 0, 0), (1, 0, 0, 0, 0), (12, 19, 28, 0, 0))
        for _ in range(60):
            desk = Desk()
            commas = [spans[dice.throw(0, 7)] for _ in range(dice.throw(0, 6))]
            keys = [(rows[dice.throw(0, 4)], (0, 0, 2)[dice.throw(0, 2)]) for _ in range(dice.throw(0, 6))]
            for span in commas:
                desk.told(f"comma {span}")
            for row, ring in keys:
                desk.told(f"ring {ring} " + " ".join(str(entry) for entry in row))
            found = held([span_read(span) for span in commas], keys)
            self.assertAnswers(desk, [("same", f"comma {found[1]}" if found[0] == "comma" else found[0])])


class Forget(Case):
    def test_commas_and_keys_go_and_all_else_stays(self):
        desk = self.full_desk()
        shown = [desk.told("show a"), desk.told("show b")]
        self.assertAnswers(desk, [
            ("forget", "forgotten"), ("nothing 81/80", "no"), ("sound 3/2", ""), ("same", "span"),
        ])
        self.assertAnswers(desk, [("show a", shown[0]), ("show b", shown[1]), ("alike a a", "yes")])
        self.assertRefused(desk, "steps a b", NoBoard)
        self.assertAnswers(desk, [(TWELVE, "1"), ("steps a b", "4"), ("comma 81/80", "1")])

    def test_where_nothing_is_kept(self):
        self.assertAnswers(Desk(), [("forget", "forgotten"), ("forget", "forgotten")])


class Tunes(Case):
    def test_told_and_shown(self):
        desk = Desk()
        self.assertAnswers(desk, [(f"tune a {TUNE}", TUNE), ("show a", TUNE), ("show a", TUNE)])
        self.assertAnswers(desk, [
            ("tune b 4/4: C.0=2/2", "1/1: C.0=1/1"), ("show b", "1/1: C.0=1/1"), ("show a", TUNE),
        ])

    def test_told_again_by_the_same_name(self):
        desk = self.desk(f"tune a {TUNE}", "tune b 1/4: R=1/4")
        self.assertAnswers(desk, [("tune a 1/1: G.0=1/1", "1/1: G.0=1/1"), ("show a", "1/1: G.0=1/1")])
        self.assertAnswers(desk, [("show b", "1/4: R=1/4")])

    def test_long_ones(self):
        text = "6/1: " + " | ".join([" ".join(["C.0=1/4"] * 24)] * 40)
        self.assertAnswers(Desk(), [(f"tune abcdefgh {text}", text)])

    def test_names(self):
        for name in ("a", "z", "ab", "abcdefgh", "zzzzzzzz", "tune", "show", "comma", "r"):
            desk = Desk()
            self.assertAnswers(desk, [
                (f"tune {name} {TUNE}", TUNE), (f"show {name}", TUNE), (f"alike {name} {name}", "yes"),
            ])
            self.assertAnswers(desk, [(f"chord {name} C.0 1/1", "C.0")])

    def test_names_that_are_none(self):
        desk = self.full_desk()
        for name in NO_NAMES:
            for line in (
                f"tune {name} {TUNE}", f"move {name} 2/1", f"show {name}", f"alike {name} a", f"alike a {name}",
                f"chord {name} C.0 1/1", f"steps {name} a", f"steps a {name}",
            ):
                self.assertRefused(desk, line, NoNote)

    def test_names_by_which_nothing_stands(self):
        for desk in (Desk(), self.full_desk()):
            for line in ("move x 2/1", "show x", "alike x x", "steps x x"):
                self.assertRefused(desk, line, NoNote)
        desk = self.full_desk()
        for line in ("alike a x", "alike x a", "steps a x", "steps x a", "show c", "alike a c", "move c 2/1"):
            self.assertRefused(desk, line, NoNote)
        desk = self.desk(f"tune t {TUNE}", TWELVE)
        self.assertRefused(desk, "steps t t", NoNote)

    def test_texts_that_are_none(self):
        desk = self.full_desk()
        for text, refusal in (
            ("", NoTune), ("x", NoTune), ("3/4:R=3/4", NoTune), ("0/4: R=3/4", NoTune),
            (" | ".join(["x"] * 41), NoTune), ("1/4: " + " | ".join(["R=1/4"] * 41), NoTune), ("3/4: x", BadNote),
            ("3/4: ", BadNote), ("3/4: R=1/4", BadBar),
        ):
            self.assertRefused(desk, f"tune a {text}", refusal)
            self.assertRefused(desk, f"tune n {text}", refusal)
        self.assertEqual(self.assertRefused(desk, "tune a 1/4: R=1/4 | R=1/2", BadBar).bar, 1)
        found = self.assertRefused(desk, "tune a 1/2: R=1/2 | R=1/4 x", BadNote)
        self.assertEqual((found.bar, found.place), (1, 1))
        self.assertRefused(desk, "show n", NoNote)

    def test_the_name_goes_ahead_of_the_text(self):
        self.assertRefused(Desk(), "tune A x", NoNote)
        self.assertRefused(Desk(), "tune abcdefghi 3/4: x", NoNote)

    def test_moving(self):
        desk = self.desk(f"tune a {TUNE}", f"tune b {TUNE}")
        up = "3/4: G.0=1/2 B-.0=1/4 | R=3/4"
        self.assertAnswers(desk, [("move a 3/2", up), ("show a", up), ("show b", TUNE), ("move a 4/6", TUNE)])
        self.assertAnswers(desk, [("show a", TUNE), ("move a 1/1", TUNE)])

    def test_moving_twice(self):
        desk = self.desk("tune a 1/1: C.0=1/1")
        self.assertAnswers(desk, [
            ("move a 2/1", "1/1: C.1=1/1"), ("move a 2/1", "1/1: C.2=1/1"), ("show a", "1/1: C.2=1/1"),
        ])

    def test_moving_too_far(self):
        desk = self.desk("tune a 1/2: C.0=1/4 C.700=1/4", "tune b 1/1: R=1/1")
        self.assertRefused(desk, "move a 2/1", TooFar)
        self.assertAnswers(desk, [("show a", "1/2: C.0=1/4 C.700=1/4"), ("move a 1/2", "1/2: C.-1=1/4 C.699=1/4")])
        self.assertAnswers(desk, [("move b 2/1", "1/1: R=1/1")])

    def test_which_refusal_of_moving_comes_first(self):
        desk = self.desk("tune a 1/1: C.700=1/1")
        for name in ("x", "A", ""):
            for span in NO_SPANS + FAR_SPANS + ("2/1",):
                self.assertRefused(desk, f"move {name} {span}", NoNote)
        for span in NO_SPANS:
            self.assertRefused(desk, f"move a {span}", NoSpan)
        for span in FAR_SPANS:
            self.assertRefused(desk, f"move a {span}", TooFar)

    def test_alike(self):
        desk = self.desk("tune a 1/1: E-.0=1/1", "tune b 1/1: E.0=1/1", "tune c 1/1: R=1/1")
        self.assertAnswers(desk, [
            ("alike a b", "no"), ("alike a a", "yes"), ("alike a c", "no"), ("alike c c", "yes"),
        ])
        self.assertAnswers(desk, [
            ("comma 81/80", "1"), ("alike a b", "yes"), ("alike b a", "yes"), ("alike b c", "no"),
        ])
        self.assertAnswers(desk, [
            ("move b 2/1", "1/1: E.1=1/1"), ("alike a b", "no"), ("comma 2/1", "2"), ("alike a b", "yes"),
        ])
        self.assertAnswers(desk, [("forget", "forgotten"), ("alike a b", "no"), (TWELVE, "1"), ("alike a b", "no")])

    def test_moved_tunes_are_alike_just_where_the_span_is_nothing(self):
        for commas in ([], ["81/80"], ["81/80", "128/125"], ["2/1"], ["6561/6400"]):
            for span in ("1/1", "81/80", "80/81", "128/125", "2/1", "3/2", "648/625"):
                desk = self.desk(f"tune a {TUNE}", f"tune b {TUNE}", *[f"comma {comma}" for comma in commas])
                desk.told(f"move b {span}")
                self.assertEqual(desk.told("alike a b"), desk.told(f"nothing {span}"))


class Chords(Case):
    def test_answers_the_names(self):
        desk = Desk()
        self.assertAnswers(desk, [
            (f"chord a C.0 {SEVENTH}", "C.0 E-.0 G.0 Bb<.0"), ("chord b G.0 1/1", "G.0"), ("chord b G.0 2/4", "G.-1"),
            ("chord c C.1 1/1(3/2 5/4)", "C.1 G.1 E-.1"), ("chord d D.0 1/1(1/1 1/1)", "D.0 D.0 D.0"),
        ])

    def test_twelve_tones(self):
        text = "1/1(" + " ".join(["3/2"] * 11) + ")"
        self.assertAnswers(Desk(), [(f"chord a C.0 {text}", " ".join(["C.0"] + ["G.0"] * 11))])

    def test_told_again_by_the_same_name(self):
        desk = self.desk(TWELVE, "chord a C.0 1/1", "chord b G.0 1/1")
        self.assertAnswers(desk, [("steps a b", "5"), ("chord a G.3 1/1", "G.3"), ("steps a b", "0")])

    def test_the_same_name_for_a_tune_and_a_chord(self):
        desk = self.desk(TWELVE, f"tune a {TUNE}", "chord a C.0 1/1", "chord b D.0 1/1")
        up = "3/4: C.1=1/2 E-.1=1/4 | R=3/4"
        self.assertAnswers(desk, [("show a", TUNE), ("steps a b", "2"), ("move a 2/1", up), ("show a", up)])
        self.assertAnswers(desk, [("steps a b", "2"), ("tune b 1/1: R=1/1", "1/1: R=1/1"), ("steps a b", "2")])
        self.assertAnswers(desk, [("chord a E.0 1/1", "E.0"), ("show b", "1/1: R=1/1"), ("steps b a", "2")])

    def test_refusals_in_their_order(self):
        desk = self.full_desk()
        no_tones = ("x", "", "c.0", "C", "C.-0", "1/1", "C" + "#" * 300 + ".0")
        far_tones = ("C.701", "C.-9999", "C" + "^" * 61 + ".0")
        no_stacks = ("x", "", " 1/1", "1/1 ", "1/1 5/4", "1/1(", "1/1)", "1/1()", "13/1", FAR_SPANS[0], "(" * 2000)
        for stack in no_stacks + ("1/1", "2/1"):
            for tone in no_tones + far_tones + ("C.0", "C.700"):
                for name in ("A", "", "abcdefghi"):
                    self.assertRefused(desk, f"chord {name} {tone} {stack}", NoNote)
            for tone in no_tones:
                self.assertRefused(desk, f"chord a {tone} {stack}", NoName)
            for tone in far_tones:
                self.assertRefused(desk, f"chord a {tone} {stack}", TooFar)
        for stack in no_stacks:
            self.assertRefused(desk, f"chord a C.700 {stack}", NoStack)

    def test_too_far(self):
        desk = self.full_desk()
        for stack in ("2/1", "1/1(2/1)", "2/1(1/2)", "1/1(1/1 1/1(2/1))"):
            self.assertRefused(desk, f"chord a C.700 {stack}", TooFar)
            self.assertRefused(desk, f"chord n C.700 {stack}", TooFar)
            self.assertRefused(desk, "steps n n", NoNote)
        self.assertAnswers(desk, [("chord a C.700 1/1(1/2)", "C.700 C.699")])


class Steps(Case):
    def test_known_ones(self):
        desk = self.full_desk()
        self.assertAnswers(desk, [("steps a b", "4"), ("steps b a", "4"), ("steps a a", "0"), ("steps c c", "0")])

    def test_as_least_steps(self):
        for row in ((12, 19, 28, 34, 42), (1, 0, 0, 0, 0), (19, 30, 44, 53, 66), (9999, -9999, 3, 0, 71)):
            words = " ".join(str(entry) for entry in row)
            for root in ("C.0", "F.2", "Bb<.-3", "F^.0"):
                for stack in (SEVENTH, "1/1(3/2 5/4 7/4)", "1/1(9/8(9/8(9/8)))"):
                    desk = self.desk(f"key {words}", f"chord one C.0 {SEVENTH}", f"chord two {root} {stack}")
                    one = tones_of(named("C.0"), stack_read(SEVENTH))
                    two = tones_of(named(root), stack_read(stack))
                    self.assertAnswers(desk, [
                        ("steps one two", str(least_steps(Board(row), one, two))),
                        ("steps two one", str(least_steps(Board(row), two, one))),
                    ])

    def test_on_the_first_key(self):
        desk = self.desk("ring 0 1 0 0 0 0", TWELVE, "chord a C.0 1/1", "chord b G.0 1/1")
        self.assertAnswers(desk, [("steps a b", "0"), ("forget", "forgotten"), (TWELVE, "1"), ("key 1 0 0 0 0", "2")])
        self.assertAnswers(desk, [("ring 2 1 0 0 0 0", "3"), ("steps a b", "5")])

    def test_no_board(self):
        chords = ("chord a C.0 1/1", "chord b G.0 1/1", "chord c G.0 1/1(3/2)")
        for keys in (
            [], ["ring 12 12 19 28 34 42"], ["key 0 19 28 34 42"], ["key -12 19 28 34 42"],
            ["ring 12 12 19 28 34 42", TWELVE], ["key 0 1 0 0 0", TWELVE], ["ring 0 -1 0 0 0 0"],
            ["ring 0 0 0 0 0 0", TWELVE],
        ):
            desk = self.desk(*keys, *chords)
            self.assertRefused(desk, "steps a b", NoBoard)
            self.assertRefused(desk, "steps a a", NoBoard)
            # Ahead of NoChord, but behind names.
            self.assertRefused(desk, "steps a c", NoBoard)
            self.assertRefused(desk, "steps a x", NoNote)
            self.assertRefused(desk, "steps x a", NoNote)
        self.assertAnswers(self.desk("key 1 0 0 0 0", *chords), [("steps a b", "0")])

    def test_no_chord(self):
        seven = "1/1(" + " ".join(["3/2"] * 6) + ")"
        six = "1/1(" + " ".join(["3/2"] * 5) + ")"
        desk = self.desk(TWELVE, f"chord a C.0 {seven}", f"chord b D.0 {seven}", f"chord c C.0 {six}",
            f"chord d D.0 {six}",
                         "chord e C.0 1/1")
        for line in ("steps a b", "steps a a", "steps a c", "steps c a", "steps c e", "steps e c", "steps e a"):
            self.assertRefused(desk, line, NoChord)
        self.assertAnswers(desk, [("steps c d", "12"), ("steps e e", "0")])


class Whole(Case):
    def test_refused_lines_change_nothing(self):
        for line in (
            "", "comma", "comma 13/1", "key 1 2 3 4 x", "ring 1 1 1 1 1 1", "nothing x", "sound x", "same x",
            "forget x", "tune a x", "tune a 1/4: x", "tune a 1/4: R=1/2", "tune A 1/4: R=1/4", "move a x",
            "move x 2/1", "show x", f"move a {3 ** 20}/1 ", "alike a x", "chord a x 1/1", "chord a C.0 x",
            "chord a C.700 2/1", "steps a x", "steps a c",
        ):
            desk = self.full_desk()
            ahead = all_answers(desk)
            self.assertIsInstance(answer(desk, line), type, line)
            self.assertEqual(all_answers(desk), ahead, line)

    def test_lines_that_only_ask_change_nothing(self):
        for line in ("nothing 81/80", "sound 3/2", "same", "show a", "alike a b", "steps a b"):
            desk = self.full_desk()
            ahead = all_answers(desk)
            self.assertEqual(desk.told(line), desk.told(line))
            self.assertEqual(all_answers(desk), ahead, line)

    def test_what_a_line_does_not_speak_of_stays(self):
        untouched = {
            "comma 3/2": ("key 0 0 0 0 0", "sound 3/2", "show a", "show b", "steps a b"),
            "key 1 1 1 1 1": ("comma 1/1", "nothing 81/80", "show a", "alike a b", "steps a b"),
            "ring 3 1 1 1 1 1": ("comma 1/1", "nothing 81/80", "show a", "alike a b", "steps a b"),
            "forget": ("show a", "show b", "alike a a", "move a 3/2"),
            "tune a 1/1: R=1/1": ("same", "comma 1/1", "key 0 0 0 0 0", "sound 3/2", "show b", "steps a b"),
            "move a 3/2": ("same", "comma 1/1", "key 0 0 0 0 0", "sound 3/2", "show b", "steps a b"),
            "chord a C.0 1/1": (
                "same", "comma 1/1", "key 0 0 0 0 0", "sound 3/2", "show a", "steps b b", "steps c c",
            ),
        }
        for line, probes in untouched.items():
            desk = self.full_desk()
            ahead = [answer(copy.deepcopy(desk), probe) for probe in probes]
            desk.told(line)
            self.assertEqual([answer(copy.deepcopy(desk), probe) for probe in probes], ahead, line)

    def test_two_desks_side_by_side(self):
        one = Desk()
        other = Desk()
        self.assertAnswers(one, [
            ("comma 81/80", "1"), (TWELVE, "1"), (f"tune a {TUNE}", TUNE), ("chord a C.0 1/1", "C.0"),
        ])
        self.assertAnswers(other, [("nothing 81/80", "no"), ("sound 3/2", ""), ("comma 128/125", "1")])
        for line in ("show a", "steps a a"):
            self.assertRefused(other, line, NoNote)
        self.assertAnswers(other, [
            ("tune a 1/1: R=1/1", "1/1: R=1/1"), ("chord a G.0 1/1", "G.0"), ("forget", "forgotten"),
        ])
        self.assertAnswers(one, [
            ("nothing 81/80", "yes"), ("nothing 128/125", "no"), ("sound 3/2", "7"), ("show a", TUNE),
        ])
        self.assertAnswers(one, [("chord b G.0 1/1", "G.0"), ("steps a b", "5"), ("comma 1/1", "2")])
        self.assertEqual(all_answers(Desk()), all_answers(Desk()))

    def test_a_new_desk_keeps_nothing(self):
        self.full_desk()
        self.assertAnswers(Desk(), [("comma 81/80", "1"), (TWELVE, "1"), ("nothing 128/125", "no")])
        for name in ("a", "b", "c"):
            self.assertRefused(Desk(), f"show {name}", NoNote)
            self.assertRefused(Desk(), f"steps {name} {name}", NoNote)

    def test_a_long_talk(self):
        """Thrown lines, held against what is kept beside the desk."""
        dice = Dice(133)
        desk = Desk()
        commas, keys, tunes, chords = [], [], {}, {}
        spans = ("81/80", "3/2", "2/1", "4/5", "128/125", "13/1", "x", f"{3 ** 61}/1")
        names = ("a", "b", "c")
        for _ in range(1500):
            name = names[dice.throw(0, 2)]
            span = spans[dice.throw(0, 7)]
            good = span in spans[:5]
            kind = dice.throw(0, 7)
            if kind == 0:
                wanted = {"13/1": NoSpan, "x": NoSpan, spans[7]: TooFar}.get(span)
                if wanted is None and len(commas) == 6:
                    wanted = NoCommas
                if wanted is None:
                    commas.append(span_read(span))
                    wanted = str(len(commas))
                self.assertEqual(answer(desk, f"comma {span}"), wanted)
            elif kind == 1:
                ring = dice.throw(-1, 3)
                wanted = NoKeys if ring in (-1, 1) or len(keys) == 6 else None
                row = dice.row(12)
                if wanted is None:
                    keys.append((row, ring))
                    wanted = str(len(keys))
                self.assertEqual(answer(desk, f"ring {ring} " + " ".join(str(n) for n in row)), wanted)
            elif kind == 2:
                text = f"1/1: {name_of(dice.row(3))}=1/2 R=1/2"
                tunes[name] = tune_read(text)
                self.assertEqual(answer(desk, f"tune {name} {text}"), text)
            elif kind == 3 and name in tunes and good:
                tunes[name] = moved(tunes[name], span_read(span))
                self.assertEqual(answer(desk, f"move {name} {span}"), tune_text(tunes[name]))
            elif kind == 4:
                self.assertEqual(answer(desk, f"show {name}"), tune_text(tunes[name]) if name in tunes else NoNote)
            elif kind == 5:
                chords[name] = tones_of(row_of(3, 2), stack_read(SEVENTH))
                self.assertEqual(answer(desk, f"chord {name} G.0 {SEVENTH}"), "G.0 B-.0 D.1 F<.1")
            elif kind == 6 and good:
                wanted = " ".join(str(n) for n in values(keys, span_read(span)))
                self.assertEqual(answer(desk, f"sound {span}"), wanted)
            elif kind == 7 and dice.throw(0, 9) == 0:
                commas, keys = [], []
                self.assertEqual(answer(desk, "forget"), "forgotten")
        self.assertEqual(len(tunes) + len(chords), 6)


if __name__ == "__main__":
    unittest.main()
