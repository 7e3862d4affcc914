"""Names of tones: points 3, 9, 10 and 11."""

import itertools
import re
import unittest

from helper import HIGHEST, LOWEST, Dice
from tuningyard.errors import NoName, TooFar
from tuningyard.names import name_of, named
from tuningyard.rows import ONE, is_tone, over, power, row_of, times

LETTERS = {
    "C": (0, 0, 0, 0, 0), "D": (-3, 2, 0, 0, 0), "E": (-6, 4, 0, 0, 0), "F": (2, -1, 0, 0, 0),
    "G": (-1, 1, 0, 0, 0), "A": (-4, 3, 0, 0, 0), "B": (-7, 5, 0, 0, 0),
}
UP = {"#": (-11, 7, 0, 0, 0), "+": (-4, 4, -1, 0, 0), ">": (6, -2, 0, -1, 0), "^": (-5, 1, 0, 0, 1)}
DOWN = {"b": "#", "-": "+", "<": ">", "v": "^"}
FORM = re.compile(r"([A-G])(#*|b*)(\+*|-*)(<*|>*)(\^*|v*)\.(0|-?[1-9][0-9]{0,3})", re.ASCII)


def row_by_form(text):
    """The row of a text by the document's form and rows, or None where it has not this form."""
    found = FORM.fullmatch(text)
    if found is None or len(text) > 300:
        return None
    row = list(LETTERS[found[1]])
    for sign in found[2] + found[3] + found[4] + found[5]:
        factor = UP[sign] if sign in UP else [-entry for entry in UP[DOWN[sign]]]
        row = [entry + more for entry, more in zip(row, factor)]
    row[0] += int(found[6])
    return tuple(row)


class NameCase(unittest.TestCase):
    def assertNamed(self, text, row):
        found = named(text)
        self.assertEqual(found, row)
        self.assertIs(type(found), tuple)
        self.assertEqual([type(entry) for entry in found], [int] * 5)
        self.assertEqual(name_of(row), text)

    def assertNoName(self, text):
        with self.assertRaises(NoName, msg=repr(text)):
            named(text)

    def assertTooFar(self, text):
        with self.assertRaises(TooFar, msg=repr(text)):
            named(text)


class Reading(NameCase):
    def test_the_documents_examples(self):
        self.assertNamed("E-.0", row_of(5, 4))
        self.assertNamed("Bb<.0", row_of(7, 4))
        self.assertNamed("F^.0", row_of(11, 8))

    def test_each_letter(self):
        for letter, row in LETTERS.items():
            self.assertNamed(letter + ".0", row)

    def test_each_sign_once(self):
        for sign, row in UP.items():
            self.assertNamed("C" + sign + ".0", row)
        for sign, other in DOWN.items():
            self.assertNamed("C" + sign + ".0", power(UP[other], -1))

    def test_each_sign_often(self):
        for count in (2, 3, 8):
            for sign, row in UP.items():
                self.assertNamed("C" + sign * count + ".0", power(row, count))
            for sign, other in DOWN.items():
                self.assertNamed("C" + sign * count + ".0", power(UP[other], -count))

    def test_octaves(self):
        for octave in (0, 1, -1, 9, 10, -10, 99, -99, 100, 699, 700, -699, -700):
            self.assertNamed(f"C.{octave}", (octave, 0, 0, 0, 0))
            if abs(octave) < 699:
                self.assertNamed(f"F.{octave}", (octave + 2, -1, 0, 0, 0))

    def test_all_parts_together(self):
        self.assertNamed("A##--<<<^.-12", (-4 - 22 + 8 - 18 - 5 - 12, 3 + 14 - 8 + 6 + 1, 2, 3, 1))
        self.assertNamed("Bbb+>vv.3", (-7 + 22 - 4 + 6 + 10 + 3, 5 - 14 + 4 - 2 - 2, -1, -1, -2))

    def test_octaves_of_four_figures(self):
        for tone, octave in ((HIGHEST, 1308), (LOWEST, -1309), ((700, -60, 60, 60, 60), 1120)):
            self.assertTrue(name_of(tone).endswith(f".{octave}"))
            self.assertNamed(name_of(tone), tone)

    def test_tones_on_the_way_need_not_be_tones(self):
        self.assertNamed("C" + "#" * 8 + "-" * 14 + ".700", (700 - 88 + 56, 0, 14, 0, 0))
        self.assertTooFar("C" + "#" * 9 + ".0")
        self.assertNamed("C" + "#" * 9 + "-.0", (-95, 59, 1, 0, 0))
        self.assertNamed("C^.705", (700, 1, 0, 0, 1))


class Refusing(NameCase):
    def test_what_is_no_name(self):
        for text in (
            "", " ", ".", "0", ".0", "C", "C.", "C0", "C.0 ", " C.0", "C .0", "C. 0", "H.0", "c.0", "R.0", "b.0", "#.0",
            "CC.0", "C..0", "C.0.0", "C.0#", "C.0C.0", "C.x", "C.-", "C.+1", "C.--1", "C.1-", "C.1.", "C,0", "C.0\n",
            "CB.0", "CV.0", "Cx.0", "C.1_0", "C.0x1", "C.1e2", "C=.0", "C#", "C#.", "C.#0", "1.0", "C/0", "C.1/1",
        ):
            self.assertNoName(text)

    def test_octaves_that_are_none(self):
        for octave in ("-0", "00", "01", "-01", "0001", "-00", "000", "10000", "-10000", "12345", "00000", "99999"):
            self.assertNoName("C." + octave)

    def test_signs_in_the_wrong_order(self):
        kinds = ("#b", "+-", "<>", "^v")
        for first, second in itertools.combinations(kinds, 2):
            for one, other in itertools.product(first, second):
                self.assertEqual(named("C" + one + other + ".0"), row_by_form("C" + one + other + ".0"))
                self.assertNoName("C" + other + one + ".0")
                self.assertNoName("C" + one + other + one + ".0")

    def test_both_signs_of_a_kind(self):
        for one, other in ("#b", "b#", "+-", "-+", "<>", "><", "^v", "v^"):
            self.assertNoName("C" + one + other + ".0")
            self.assertNoName("C" + one + one + other + ".0")

    def test_300_and_301_signs(self):
        # No tone's name is so long: so what has 300 is a name, but too far.
        for head in ("C#", "Cb", "C+", "C-", "C<", "C>", "C^", "Cv"):
            longest = head[0] + head[1] * 297 + ".0"
            self.assertEqual(len(longest), 300)
            self.assertTooFar(longest)
            self.assertNoName(head[0] + head[1] * 298 + ".0")
        mixed = "C" + "#" * 80 + "-" * 70 + "<" * 70 + "^" * 74 + ".999"
        self.assertEqual(len(mixed), 299)
        self.assertTooFar(mixed)
        self.assertTooFar(mixed + "9")
        self.assertNoName(mixed.replace(".", "^.") + "9")
        self.assertNoName("C" * 20000)
        self.assertNoName("C" + "#" * 19997 + ".0")

    def test_octaves_just_beyond(self):
        self.assertTooFar("C.701")
        self.assertTooFar("C.-701")
        self.assertTooFar("C.9999")
        self.assertTooFar("C.-9999")
        self.assertEqual(named("B.707"), (700, 5, 0, 0, 0))
        self.assertTooFar("B.708")
        self.assertEqual(named("F.-702"), (-700, -1, 0, 0, 0))
        self.assertTooFar("F.-703")

    def test_signs_just_beyond(self):
        for sign, threes in (("^", 1), ("v", -1), (">", -2), ("<", 2), ("+", 4), ("-", -4)):
            # The signs bring too many threes by themselves: sharps or flats take these away.
            for count, wanted in ((60, True), (61, False)):
                sharps = -((threes * count) // 7)
                text = "C" + ("#" * sharps if sharps > 0 else "b" * -sharps) + sign * count + ".0"
                self.assertEqual(is_tone(row_by_form(text)), wanted)
                if wanted:
                    self.assertNamed(text, row_by_form(text))
                else:
                    self.assertTooFar(text)
        self.assertNamed("F" + "#" * 8 + ".0", (-86, 55, 0, 0, 0))
        self.assertNamed("A" + "#" * 8 + ".0", (-92, 59, 0, 0, 0))
        self.assertNamed("E" + "#" * 8 + ".0", (-94, 60, 0, 0, 0))
        self.assertTooFar("B" + "#" * 8 + ".0")
        self.assertNamed("D" + "b" * 8 + ".0", (85, -54, 0, 0, 0))
        self.assertTooFar("G" + "b" * 9 + ".0")
        self.assertNamed("A" + "b" * 9 + ".0", (95, -60, 0, 0, 0))
        self.assertTooFar("D" + "b" * 9 + ".0")

    def test_no_name_goes_ahead_of_too_far(self):
        self.assertNoName("C" + "#" * 100 + "b.0")
        self.assertNoName("C" + "#" * 100 + ".-0")
        self.assertNoName("C.70000")


class BothWays(NameCase):
    def test_each_short_text(self):
        names = 0
        for length in range(6):
            for signs in itertools.product("CBb#+-<>^v.01", repeat=length):
                text = "".join(signs)
                if row_by_form(text) is None:
                    self.assertNoName(text)
                else:
                    names += 1
                    self.assertNamed(text, row_by_form(text))
        self.assertEqual(names, 230)

    def test_tones_at_the_bounds(self):
        for tone in itertools.product((-700, 0, 700), (-60, 0, 60), (-60, 0, 60), (-60, 0, 60), (-60, 0, 60)):
            text = name_of(tone)
            self.assertIs(type(text), str)
            self.assertEqual(row_by_form(text), tone)
            self.assertEqual(named(text), tone)

    def test_thrown_tones(self):
        dice = Dice(11)
        for _ in range(2000):
            tone = (dice.throw(-700, 700),) + tuple(dice.throw(-60, 60) for _ in range(4))
            self.assertEqual(row_by_form(name_of(tone)), tone)
            self.assertNamed(name_of(tone), tone)

    def test_names_of_unlike_tones_are_unlike(self):
        tones = list(itertools.product(range(-3, 4), repeat=5))
        self.assertEqual(len({name_of(tone) for tone in tones}), len(tones))

    def test_some_known_names(self):
        for top, bottom, text in (
            (1, 1, "C.0"), (2, 1, "C.1"), (1, 2, "C.-1"), (3, 2, "G.0"), (4, 3, "F.0"), (9, 8, "D.0"), (6, 5, "Eb+.0"),
            (5, 3, "A-.0"), (15, 8, "B-.0"), (81, 80, "C+.0"), (80, 81, "C-.0"), (64, 63, "C>.0"), (63, 64, "C<.0"),
            (33, 32, "C^.0"), (32, 33, "Cv.0"), (7, 6, "Eb<.0"), (2187, 2048, "C#.0"), (2048, 2187, "Cb.0"),
            (3, 1, "G.1"), (1, 3, "F.-2"),
        ):
            self.assertNamed(text, row_of(top, bottom))

    def test_neighbours_differ_by_one_sign(self):
        self.assertEqual(over(named("F#.0"), named("F.0")), UP["#"])
        self.assertEqual(times(named("Eb.0"), UP["#"]), named("E.0"))
        self.assertEqual(name_of(ONE), "C.0")
        self.assertEqual(named(name_of(LOWEST)), LOWEST)


if __name__ == "__main__":
    unittest.main()
