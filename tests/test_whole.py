"""The whole: point 3, and that all names of the interface are there as they stand."""

import importlib
import inspect
import itertools
import unittest

from helper import Dice, heard_as, is_made, product
from tuningyard.desk import Desk
from tuningyard.keys import lost, values
from tuningyard.leading import least_steps, led, way
from tuningyard.likes import move_between
from tuningyard.moves import heard_alike, moved, respelled
from tuningyard.names import name_of, named
from tuningyard.papers import paper
from tuningyard.rows import ONE, over, power, row_of, times
from tuningyard.scales import loop, scale_moved, scale_of, scale_read, scale_text
from tuningyard.sizes import folded
from tuningyard.stacks import stack_read, stack_text, tones_of
from tuningyard.tables import table
from tuningyard.tunes import tune_read, tune_text
from tuningyard.tunings import Board, CommaTuning, KeyTuning, Tuning, apart, same_tuning
from tuningyard.ways import held, keys_for

INTERFACE = {
    "rows": {
        "is_tone": "thing", "tone_of": "row", "times": "one, other", "over": "one, other", "power": "row, n",
        "row_of": "top, bottom", "fraction_of": "tone",
    },
    "sizes": {
        "measure": "tone", "compare": "one, other", "rising": "tones", "octaves": "tone", "folded": "tone",
    },
    "names": {"named": "text", "name_of": "tone"},
    "spans": {"span_text": "span", "span_read": "text", "chain": "start, span, count=7"},
    "scales": {
        "scale_of": "tones", "loop": "span, count=7", "scale_moved": "scale, span", "gaps": "scale",
        "scale_text": "scale", "scale_read": "text",
    },
    "likes": {"move_between": "one, other"},
    "tables": {"table": "commas", "table_powers": "commas", "rest": "commas, row"},
    "papers": {"value": "key, row", "paper": "commas, row"},
    "keys": {"values": "keys, row", "lost": "keys"},
    "ways": {"keys_for": "commas", "held": "commas, keys"},
    "tunings": {"same_tuning": "one, other", "apart": "one, other"},
    "lengths": {"length_read": "text", "length_text": "length", "summed": "lengths"},
    "tunes": {"tune_read": "text", "tune_text": "tune"},
    "moves": {
        "moved": "tune, span", "mover": "span", "sounds": "tuning, tune", "heard_alike": "tuning, one, other",
        "respelled": "tuning, tune",
    },
    "stacks": {"tones_of": "root, stack", "tower": "spans", "stack_text": "stack", "stack_read": "text"},
    "leading": {
        "way": "board, one, other", "led": "board, chord, goal", "least_steps": "board, chord, goal",
    },
}

COMMA = row_of(81, 80)
DIESIS = row_of(128, 125)
TWELVE = (12, 19, 28, 34, 42)


def thrown_commas(start, times_over):
    """Lists of commas of each size."""
    dice = Dice(start)
    return [
        [dice.row((1, 2, 5, 60)[dice.throw(0, 3)]) for _ in range(count)]
        for _ in range(times_over) for count in range(7)
    ]


class Interface(unittest.TestCase):
    def test_functions(self):
        for module, functions in INTERFACE.items():
            there = importlib.import_module(f"tuningyard.{module}")
            for name, wanted in functions.items():
                self.assertEqual(str(inspect.signature(getattr(there, name))), f"({wanted})", name)

    def test_classes(self):
        for made, wanted in (
            (Tuning, "()"), (CommaTuning, "(commas)"), (KeyTuning, "(keys)"), (Board, "(row)"), (Desk, "()"),
        ):
            self.assertEqual(str(inspect.signature(made)), wanted, made)

    def test_methods(self):
        for made in (Tuning, CommaTuning, KeyTuning, Board):
            self.assertEqual(str(inspect.signature(made.sound)), "(self, row)")
            self.assertEqual(str(inspect.signature(made.alike)), "(self, one, other)")
            self.assertEqual(str(inspect.signature(made.table_of)), "(self)")
        self.assertEqual(str(inspect.signature(Desk.told)), "(self, line)")


class BothWays(unittest.TestCase):
    def test_commas_told_as_keys_and_back(self):
        for commas in thrown_commas(141, 12):
            keys = keys_for(commas)
            self.assertEqual(lost(keys), table(commas))
            self.assertEqual(table(lost(keys)), table(commas))
            self.assertEqual(lost(keys_for(lost(keys))), lost(keys))

    def test_keys_told_as_commas_and_back(self):
        dice = Dice(142)
        for count in range(7):
            for _ in range(6):
                keys = [(dice.row(9), (0, 0, 2, 6, 35)[dice.throw(0, 4)]) for _ in range(count)]
                commas = lost(keys)
                self.assertEqual(lost(keys_for(commas)), commas)
                self.assertEqual(held(commas, keys)[0], "same")
                self.assertEqual(held(commas, keys_for(commas))[0], "same")

    def test_made_or_told_never_both(self):
        dice = Dice(143)
        seen = []
        for commas in thrown_commas(144, 12):
            spans = [dice.row(3), product(commas, [dice.throw(-3, 3) for _ in commas]), ONE]
            for span in spans:
                found = paper(commas, span)
                seen.append(found[0])
                self.assertEqual(found[0] == "made", is_made(table(commas), span))
                self.assertEqual(found[0] == "made", not any(values(keys_for(commas), span)))
                self.assertEqual(found[0] == "made", CommaTuning(commas).alike(span, ONE))
                if found[0] == "made":
                    self.assertEqual(product(commas, found[1]), span)
                else:
                    self.assertEqual([heard_as(found[1], comma) for comma in commas], [0] * len(commas))
                    self.assertNotEqual(heard_as(found[1], span), 0)
        self.assertEqual(set(seen), {"made", "told"})

    def test_held_tells_whether_the_tunings_are_the_same(self):
        dice = Dice(145)
        seen = []
        for commas in thrown_commas(146, 12):
            keys = keys_for(commas)
            for some in (keys, keys[1:], keys[:-1], [(dice.row(2), 0)], [(TWELVE, 0)], []):
                found = held(commas, some)
                seen.append(found[0])
                one = CommaTuning(commas)
                other = KeyTuning(some)
                self.assertEqual(found[0] == "same", same_tuning(one, other))
                self.assertEqual(found[0] == "same", apart(one, other) is None)
                if found[0] == "comma":
                    self.assertFalse(other.alike(commas[found[1]], ONE))
                if found[0] == "span":
                    self.assertTrue(other.alike(found[1], ONE))
                    self.assertFalse(one.alike(found[1], ONE))
        self.assertEqual(set(seen), {"same", "comma", "span"})


class ThereAndBack(unittest.TestCase):
    def test_names(self):
        dice = Dice(147)
        for _ in range(300):
            tone = dice.row(60)
            self.assertEqual(named(name_of(tone)), tone)
            self.assertEqual(name_of(named(name_of(tone))), name_of(tone))

    def test_scales(self):
        dice = Dice(148)
        for count in range(0, 60, 7):
            scale = scale_of([dice.row(30) for _ in range(count)])
            self.assertEqual(scale_read(scale_text(scale)), scale)
            self.assertEqual(scale_text(scale_read(scale_text(scale))), scale_text(scale))

    def test_stacks(self):
        for text in ("1/1", "1/1(5/4(6/5) 7/4)", "2/3(1/1 1/1(9/8(7/6 11/10) 3/2))"):
            self.assertEqual(stack_text(stack_read(text)), text)

    def test_tunes_of_a_scale_moved_and_moved_back(self):
        for scale in (loop(row_of(3, 2), 7), loop(row_of(5, 4), 5), [ONE]):
            for span in (ONE, COMMA, DIESIS, row_of(3, 2), (7, -5, 3, -2, 1)):
                bars = [[(tone, (1, 4)), (None, (1, 4))] for tone in scale]
                text = tune_text(((1, 2), bars))
                self.assertEqual(tune_read(text), ((1, 2), bars))
                there = tune_text(moved(tune_read(text), span))
                self.assertEqual(tune_text(moved(tune_read(there), power(span, -1))), text)

    def test_a_moved_tune_is_heard_alike_just_where_the_span_is_heard_as_nothing(self):
        tune = tune_read("1/2: C.0=1/4 R=1/4 | F^.0=1/8 E-.1=3/8")
        seen = []
        for commas in thrown_commas(149, 6) + [[COMMA], [COMMA, DIESIS]]:
            keys = keys_for(commas)
            for span in commas + [ONE, COMMA, (1, 0, 0, 0, 0), (0, 1, -1, 0, 0)]:
                if any(abs(entry) > 50 for entry in span):
                    continue
                there = moved(tune, span)
                made = paper(commas, span)[0] == "made"
                seen.append(made)
                self.assertEqual(heard_alike(CommaTuning(commas), tune, there), made)
                self.assertEqual(heard_alike(KeyTuning(keys), tune, there), made)
                self.assertEqual(heard_alike(Tuning(), tune, there), span == ONE)
                self.assertEqual(heard_alike(Board(TWELVE), tune, there), heard_as((TWELVE, 0), span) == 0)
        self.assertEqual(set(seen), {True, False})

    def test_respelled_tunes(self):
        tune = tune_read("1/2: C.0=1/4 R=1/4 | F^.0=1/8 E-.1=3/8")
        for commas in ([], [COMMA], [COMMA, DIESIS]):
            tuning = CommaTuning(commas)
            text = tune_text(respelled(tuning, tune))
            self.assertTrue(heard_alike(tuning, tune_read(text), tune))
            self.assertEqual(tune_text(respelled(tuning, moved(tune, COMMA))) == text, tuning.alike(COMMA, ONE))


class Chords(unittest.TestCase):
    def test_prices_show_that_no_other_way_has_fewer_steps(self):
        dice = Dice(150)
        board = Board(TWELVE)
        for text in ("1/1(5/4(6/5) 7/4)", "1/1(3/2 5/4 9/8 7/4 11/8)"):
            for _ in range(12):
                chord = tones_of(dice.row(4), stack_read(text))
                goal = tones_of(dice.row(4), stack_read(text))
                goes, comes, here, there = led(board, chord, goal)
                self.assertEqual(sum(here) + sum(there), least_steps(board, chord, goal))
                for order in itertools.permutations(range(len(chord))):
                    steps = sum(way(board, one, goal[place])[0] for one, place in zip(chord, order))
                    self.assertLessEqual(sum(here) + sum(there), steps)
                for one, place, sound in zip(chord, goes, comes):
                    self.assertEqual((sound - board.sound(goal[place])) % 12, 0)
                    self.assertLessEqual(abs(sound - board.sound(one)), 6)


class Scales(unittest.TestCase):
    def test_the_other_one_moved_or_each_way_has_a_span_that_only_one_has(self):
        dice = Dice(151)
        seen = []
        for _ in range(60):
            one = scale_of([dice.row(1) for _ in range(dice.throw(1, 5))])
            other = scale_of([dice.row(1) for _ in one])
            if dice.throw(0, 1):
                other = scale_moved(one, dice.row(3))
            found = move_between(one, other)
            seen.append(found[0])
            if found[0] == "move":
                self.assertEqual(scale_moved(one, found[1]), other)
            else:
                self.assertEqual(len(found[1]), len(other))
                for span, tone in zip(found[1], other):
                    here = folded(times(one[0], span)) in one
                    there = folded(times(tone, span)) in other
                    self.assertNotEqual(here, there)
        self.assertEqual(set(seen), {"move", "apart"})

    def test_the_span_is_told_folded(self):
        for span in (row_of(3, 2), row_of(9, 1), row_of(1, 5)):
            scale = loop(row_of(3, 2), 5)
            self.assertEqual(move_between(scale, scale_moved(scale, span)), ("move", folded(span)))
            self.assertEqual(over(folded(span), span)[1:], (0, 0, 0, 0))


class AtTheDesk(unittest.TestCase):
    def test_a_desk_tells_the_same_as_the_functions(self):
        desk = Desk()
        commas = ["81/80", "128/125", "64/63", "225/224", "99/98"]
        for number, span in enumerate(commas, start=1):
            self.assertEqual(desk.told(f"comma {span}"), str(number))
        rows = [row_of(*(int(part) for part in span.split("/"))) for span in commas]
        self.assertEqual(table(rows), lost([(TWELVE, 0)]))
        self.assertEqual(desk.told("key 12 19 28 34 42"), "1")
        self.assertEqual(desk.told("same"), held(rows, [(TWELVE, 0)])[0])
        for span in ("3/2", "531441/524288", "7/4", "1/1", "36/35", "49/48"):
            top, bottom = (int(part) for part in span.split("/"))
            row = row_of(top, bottom)
            self.assertEqual(desk.told(f"nothing {span}") == "yes", paper(rows, row)[0] == "made")
            self.assertEqual(desk.told(f"nothing {span}") == "yes", desk.told(f"sound {span}") == "0")


if __name__ == "__main__":
    unittest.main()
