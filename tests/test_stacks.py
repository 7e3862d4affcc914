"""Stacks, their tones, towers, and how they are written and read: points 2, 35 and 36."""

import copy
import unittest

from helper import HIGHEST, LOWEST, Dice
from tuningyard.errors import NoStack, TooFar
from tuningyard.rows import ONE, is_tone, power, row_of, times
from tuningyard.spans import span_text
from tuningyard.stacks import stack_read, stack_text, tones_of, tower

OCTAVE = (1, 0, 0, 0, 0)
THIRD = row_of(5, 4)
MINOR = row_of(6, 5)
FIFTH = row_of(3, 2)
SEVENTH = row_of(7, 4)
TEXT = "1/1(5/4(6/5) 7/4)"
STACK = (ONE, [(THIRD, [(MINOR, [])]), (SEVENTH, [])])


def thrown_stack(dice, spans, deep):
    """A stack of so many spans, at most so deep."""
    uppers = []
    left = spans - 1
    while left > 0 and deep > 1:
        part = dice.throw(1, left)
        uppers.append(thrown_stack(dice, part, deep - 1))
        left -= part
    return (dice.row(2), uppers)


def tones_by_walk(root, stack):
    """The tones of a stack upon a root, gathered with a list of what is still to do."""
    tones = []
    waiting = [(root, stack)]
    while waiting:
        below, (span, uppers) = waiting.pop()
        tone = tuple(entry + added for entry, added in zip(below, span))
        tones.append(tone)
        waiting.extend((tone, upper) for upper in reversed(uppers))
    return tones


class Case(unittest.TestCase):
    def assertStack(self, found, wanted):
        self.assertEqual(found, wanted)
        waiting = [found]
        while waiting:
            stack = waiting.pop()
            self.assertEqual((type(stack), len(stack), type(stack[1])), (tuple, 2, list))
            self.assertEqual((type(stack[0]), [type(entry) for entry in stack[0]]), (tuple, [int] * 5))
            waiting.extend(stack[1])

    def assertNoStack(self, text):
        with self.assertRaises(NoStack, msg=text[:60]):
            stack_read(text)


class Tones(Case):
    def assertTones(self, root, stack, wanted):
        found = tones_of(root, stack)
        self.assertIs(type(found), list)
        self.assertEqual(found, wanted)
        for tone in found:
            self.assertIs(is_tone(tone), True)

    def test_one_span(self):
        self.assertTones(ONE, (ONE, []), [ONE])
        self.assertTones(FIFTH, (THIRD, []), [row_of(15, 8)])
        self.assertTones(OCTAVE, (power(OCTAVE, -1), []), [ONE])

    def test_the_documents_own(self):
        self.assertTones(ONE, STACK, [ONE, THIRD, FIFTH, SEVENTH])
        self.assertTones(FIFTH, STACK, [times(FIFTH, tone) for tone in (ONE, THIRD, FIFTH, SEVENTH)])

    def test_the_order(self):
        stack = (OCTAVE, [(THIRD, [(MINOR, []), (SEVENTH, [(THIRD, [])])]), (FIFTH, []), (ONE, [(MINOR, [])])])
        self.assertTones(ONE, stack, [times(OCTAVE, tone) for tone in (
            ONE, THIRD, FIFTH, row_of(35, 16), row_of(175, 64), FIFTH, ONE, MINOR)])

    def test_the_same_tone_more_than_once(self):
        self.assertTones(THIRD, (ONE, [(ONE, []), (ONE, [(ONE, [])])]), [THIRD] * 4)

    def test_flat_and_deep(self):
        flat = (ONE, [(power(FIFTH, n), []) for n in range(11)])
        self.assertTones(ONE, flat, [ONE] + [power(FIFTH, n) for n in range(11)])
        deep = (FIFTH, [])
        for _ in range(7):
            deep = (FIFTH, [deep])
        self.assertTones(ONE, deep, [power(FIFTH, n) for n in range(1, 9)])

    def test_thrown_ones(self):
        dice = Dice(111)
        for spans in range(1, 13):
            for deep in range(1, 9):
                stack = thrown_stack(dice, spans, deep)
                root = dice.row(10)
                self.assertTones(root, stack, tones_by_walk(root, stack))

    def test_somewhat_deeper(self):
        deep = (FIFTH, [])
        for _ in range(19):
            deep = (FIFTH, [deep])
        self.assertTones(ONE, deep, [power(FIFTH, n) for n in range(1, 21)])

    def test_too_far(self):
        high = (700, 0, 0, 0, 0)
        down = power(OCTAVE, -1)
        for root, stack in (
            (high, (OCTAVE, [])),  # at the root
            (high, (OCTAVE, [(down, [])])),  # and back again
            (high, (ONE, [(OCTAVE, [(down, [])]), (ONE, [])])),  # in the midst
            (high, (ONE, [(ONE, []), (ONE, [(ONE, []), (OCTAVE, [])])])),  # at the end
            (power(high, -1), (ONE, [(down, [])])),
            (HIGHEST, ((0, 0, 0, 0, 1), [])), (LOWEST, (ONE, [(ONE, [((0, -1, 0, 0, 0), [])])])),
        ):
            with self.assertRaises(TooFar):
                tones_of(root, stack)
        self.assertTones((699, 0, 0, 0, 0), (OCTAVE, [(down, [(OCTAVE, [])])]), [high, (699, 0, 0, 0, 0), high])
        self.assertTones(HIGHEST, (ONE, [(power(HIGHEST, -1), [])]), [HIGHEST, ONE])

    def test_what_is_handed_in_stays(self):
        stack = copy.deepcopy(STACK)
        found = tones_of(ONE, stack)
        self.assertEqual(stack, STACK)
        stack[1].clear()
        self.assertEqual(found, [ONE, THIRD, FIFTH, SEVENTH])

    def test_a_new_list_each_time(self):
        first = tones_of(ONE, STACK)
        second = tones_of(ONE, STACK)
        first.clear()
        self.assertEqual(second, [ONE, THIRD, FIFTH, SEVENTH])
        self.assertEqual(tones_of(ONE, STACK), second)


class Towers(Case):
    def test_one_to_eight_spans(self):
        spans = [THIRD, MINOR, ONE, power(FIFTH, -2), SEVENTH, OCTAVE, THIRD, HIGHEST]
        wanted = None
        for count in range(8, 0, -1):
            wanted = (spans[count - 1], [] if wanted is None else [wanted])
            self.assertStack(tower(spans[count - 1:]), wanted)

    def test_somewhat_more_spans(self):
        self.assertEqual(tones_of(ONE, tower([FIFTH] * 12)), [power(FIFTH, n) for n in range(1, 13)])

    def test_known_ones(self):
        self.assertStack(tower([FIFTH]), (FIFTH, []))
        self.assertStack(tower([THIRD, MINOR]), (THIRD, [(MINOR, [])]))
        self.assertEqual(stack_text(tower([ONE, THIRD, MINOR])), "1/1(5/4(6/5))")

    def test_its_tones(self):
        self.assertEqual(tones_of(ONE, tower([ONE, THIRD, MINOR])), [ONE, THIRD, FIFTH])
        self.assertEqual(tones_of(ONE, tower([FIFTH] * 8)), [power(FIFTH, n) for n in range(1, 9)])

    def test_what_is_handed_in_stays(self):
        spans = [ONE, THIRD, MINOR]
        found = tower(spans)
        self.assertEqual(spans, [ONE, THIRD, MINOR])
        spans.clear()
        self.assertStack(found, (ONE, [(THIRD, [(MINOR, [])])]))

    def test_new_lists_each_time(self):
        for spans in ([ONE], [ONE, THIRD]):
            first = tower(spans)
            kept = copy.deepcopy(first)
            second = tower(spans)
            first[1].append(None)
            self.assertEqual(second, kept)
            self.assertEqual(tower(spans), kept)


class Writing(Case):
    def test_the_documents_own(self):
        self.assertEqual(stack_text(STACK), TEXT)
        self.assertIs(type(stack_text(STACK)), str)

    def test_known_ones(self):
        for stack, wanted in (
            ((ONE, []), "1/1"), ((power(FIFTH, -1), []), "2/3"), ((ONE, [(THIRD, []), (FIFTH, [])]), "1/1(5/4 3/2)"),
            ((ONE, [(THIRD, [(MINOR, [(THIRD, [])])])]), "1/1(5/4(6/5(5/4)))"),
            ((ONE, [(THIRD, [(MINOR, [])]), (FIFTH, [(MINOR, []), (ONE, [])])]), "1/1(5/4(6/5) 3/2(6/5 1/1))"),
        ):
            self.assertEqual(stack_text(stack), wanted)

    def test_60_and_61_figures(self):
        # The powers of 2 have 60 figures for the last time at 199.
        there = (199, 0, 0, 0, 0)
        beyond = (200, 0, 0, 0, 0)
        self.assertEqual((len(str(2 ** 199)), len(str(2 ** 200))), (60, 61))
        for span, wanted in ((there, f"{2 ** 199}/1"), (power(there, -1), f"1/{2 ** 199}")):
            self.assertEqual(stack_text((span, [])), wanted)
            self.assertEqual(stack_text((ONE, [(ONE, [(span, [])]), (ONE, [])])), f"1/1(1/1({wanted}) 1/1)")
            self.assertStack(stack_read(wanted), (span, []))
        for span in (beyond, power(beyond, -1), HIGHEST, LOWEST):
            for stack in (
                (span, []), (span, [(ONE, [])]), (ONE, [(span, [])]), (ONE, [(ONE, []), (ONE, [(span, [])])]),
            ):
                with self.assertRaises(TooFar):
                    stack_text(stack)

    def test_there_and_back(self):
        dice = Dice(112)
        for spans in range(1, 13):
            for deep in range(1, 9):
                stack = thrown_stack(dice, spans, deep)
                self.assertStack(stack_read(stack_text(stack)), stack)

    def test_what_is_handed_in_stays(self):
        stack = copy.deepcopy(STACK)
        stack_text(stack)
        self.assertEqual(stack, STACK)


class Reading(Case):
    def test_the_documents_own(self):
        self.assertStack(stack_read(TEXT), STACK)

    def test_known_ones(self):
        for text, wanted in (
            ("1/1", (ONE, [])), ("2/3", (power(FIFTH, -1), [])), ("1/1(5/4)", (ONE, [(THIRD, [])])),
            ("1/1(5/4 3/2)", (ONE, [(THIRD, []), (FIFTH, [])])),
            ("1/1(5/4(6/5) 3/2(6/5 1/1))", (ONE, [(THIRD, [(MINOR, [])]), (FIFTH, [(MINOR, []), (ONE, [])])])),
            ("1/1(5/4 3/2(6/5(1/1) 1/1) 7/4)",
             (ONE, [(THIRD, []), (FIFTH, [(MINOR, [(ONE, [])]), (ONE, [])]), (SEVENTH, [])])),
        ):
            self.assertStack(stack_read(text), wanted)
            self.assertEqual(stack_text(stack_read(text)), text)

    def test_spans_that_are_not_in_lowest_terms(self):
        self.assertStack(stack_read("3/3(10/8(12/10) 14/8)"), STACK)
        self.assertEqual(stack_text(stack_read("3/3(10/8(12/10) 14/8)")), TEXT)
        self.assertStack(stack_read("13/13"), (ONE, []))

    def test_12_and_13_spans(self):
        for text in ("1/1(" + " ".join(["3/2"] * 11) + ")", "1/1(" + " ".join(["5/4(6/5)"] * 5) + " 3/2)"):
            self.assertEqual(text.count("/"), 12)
            self.assertEqual(stack_text(stack_read(text)), text)
        for text in (
            "1/1(" + " ".join(["3/2"] * 12) + ")", "1/1(" + " ".join(["5/4(6/5)"] * 6) + ")",
            "1/1(" + " ".join(["3/2"] * 4000) + ")", "1/1(1/1 1/1 1/1 1/1(1/1 1/1 1/1 1/1) 1/1(1/1 1/1 1/1))",
        ):
            self.assertGreaterEqual(text.count("/"), 13)
            self.assertNoStack(text)

    def test_8_and_9_deep(self):
        for count in range(1, 9):
            text = "(".join(["3/2"] * count) + ")" * (count - 1)
            self.assertStack(stack_read(text), tower([FIFTH] * count))
        for count in (9, 10, 12):
            self.assertNoStack("(".join(["3/2"] * count) + ")" * (count - 1))
        text = "1/1(1/1 " + "(".join(["3/2"] * 7) + ")" * 7
        self.assertStack(stack_read(text), (ONE, [(ONE, []), tower([FIFTH] * 7)]))
        self.assertNoStack("1/1(1/1 " + "(".join(["3/2"] * 8) + ")" * 8)
        self.assertNoStack("1/1(" + "(".join(["3/2"] * 8) + ")" * 7 + " 1/1)")

    def test_flat_behind_deep(self):
        text = "1/1(" + "(".join(["3/2"] * 7) + ")" * 6 + " 5/4(6/5) 7/4)"
        self.assertStack(stack_read(text), (ONE, [tower([FIFTH] * 7), (THIRD, [(MINOR, [])]), (SEVENTH, [])]))

    def test_brackets(self):
        for text in (
            "1/1(", "1/1(5/4", "1/1(5/4(6/5)", "1/1(5/4(6/5 7/4)",  # that don't close
            "1/1(5/4(6/5)x", "1/1(5/4(6/5)(", "1/1(5/4(6/5)7", "1/1(5/4(6/5) ",
            "1/1)", "1/1(5/4))", ")", "1/1(5/4)(6/5))", "1/1(5/4)) 7/4)",  # that close too often
            "1/1()", "1/1(5/4())", "1/1(())", "()", "1/1(5/4() 7/4)",  # that are empty
            "(", "(1/1)", "(1/1(5/4))", "((1/1", "1/1((5/4))", "1/1((5/4) 7/4)", "1/1(5/4 (6/5))",  # ahead of a span
            ")1/1(", "1/1(5/4)(6/5)", "1/1(5/4)6/5", "1/1(5/4(6/5)7/4)", "1/1(5/4", "1/1(5/4]", "1/1[5/4]", "1/1{5/4}",
        ):
            self.assertNoStack(text)

    def test_blanks(self):
        for text in (
            " ", " 1/1", "1/1 ", "1/1 5/4", "1/1 (5/4)", "1/1( 5/4)", "1/1(5/4 )", "1/1(5/4) ", " 1/1(5/4)",
            "1/1(5/4  7/4)", "1/1(5/4 7/4 )", "1/1( )", "1/1(5/4) 7/4", "1/1(5/4 (6/5) 7/4)", "1/1(5/4( 6/5) 7/4)",
            "1/1(5/4(6/5 ) 7/4)", "1/1(5/4(6/5)  7/4)", "1 /1", "1/ 1", "1/1(5/4) (7/4)", "1/1(5/4\n7/4)", "1/1\n",
        ):
            self.assertNoStack(text)

    def test_spans_that_are_none(self):
        for span in (
            "", "1", "/", "1/", "/1", "0/1", "1/0", "01/1", "1/01", "-1/1", "13/1", "1/13", "17/13", "1/1/1", "x",
            "1.0/1", "C.0", f"{2 ** 200}/1", f"1/{2 ** 200}", f"{3 ** 61}/1", f"1/{5 ** 61}", "1,1", "1:1", "=",
        ):
            for text in (
                span, f"{span}(1/1)", f"1/1({span})", f"1/1(5/4 {span})", f"1/1({span} 5/4)", f"1/1(5/4({span}))",
            ):
                self.assertNoStack(text)

    def test_without_signs(self):
        self.assertNoStack("")

    def test_long_texts(self):
        for text in (
            "(" * 2000, "1/1" + "(" * 2000, ")" * 2000, "1/1(" * 2000, "1/1(" * 2000 + "1/1" + ")" * 2000, " " * 20000,
            "(" * 20000, "x" * 20000, "1/1" + ")" * 2000, "1" * 20000, "/" * 20000, "1/1(" + " " * 19000 + ")",
            "1/1(5/4" + "(" * 2000, "()" * 10000,
        ):
            self.assertNoStack(text)

    def test_what_is_read_is_the_askers_own(self):
        first = stack_read(TEXT)
        second = stack_read(TEXT)
        first[1][0][1].append(None)
        first[1].pop()
        self.assertStack(second, STACK)
        self.assertStack(stack_read(TEXT), STACK)
        both = stack_read("1/1(5/4 5/4)")
        both[1][0][1].append(None)
        self.assertEqual(both[1][1], (THIRD, []))

    def test_spans_are_written_as_their_own_point_tells(self):
        for span in (ONE, THIRD, power(FIFTH, -3), (-5, 1, 0, 0, 1)):
            self.assertEqual(stack_text((span, [])), span_text(span))


if __name__ == "__main__":
    unittest.main()
