"""The refusals: one class for each, all under YardError, none under another."""

import unittest

from tuningyard import errors

MADE_OF_A_TEXT = (
    "TooFar", "NoSpan", "NoName", "NoScale", "NoCommas", "NoKeys", "NoBoard", "NoLength", "NoTune",
    "NoStack", "NoChord", "NoLine", "NoNote",
)
ALL = MADE_OF_A_TEXT + ("BadBar", "BadNote")


class Classes(unittest.TestCase):
    def test_there_are_fifteen(self):
        self.assertEqual(len(set(ALL)), 15)

    def test_yard_error_is_a_value_error(self):
        self.assertEqual(errors.YardError.__bases__, (ValueError,))

    def test_each_stands_under_yard_error_and_value_error(self):
        for name in ALL:
            with self.subTest(name=name):
                self.assertTrue(issubclass(getattr(errors, name), errors.YardError))
                self.assertTrue(issubclass(getattr(errors, name), ValueError))

    def test_none_stands_under_another(self):
        for name in ALL:
            for other in ALL:
                if name != other:
                    with self.subTest(name=name, other=other):
                        self.assertFalse(issubclass(getattr(errors, name), getattr(errors, other)))

    def test_no_class_is_another_by_a_second_name(self):
        self.assertEqual(len({getattr(errors, name) for name in ALL}), 15)
        for name in ALL:
            self.assertEqual(getattr(errors, name).__name__, name)


class Making(unittest.TestCase):
    def test_most_are_made_of_one_text(self):
        for name in MADE_OF_A_TEXT:
            with self.subTest(name=name):
                with self.assertRaises(errors.YardError) as caught:
                    raise getattr(errors, name)("some words")
                self.assertEqual(str(caught.exception), "some words")

    def test_yard_error_is_made_of_one_text(self):
        self.assertEqual(str(errors.YardError("some words")), "some words")

    def test_bad_bar_has_the_bar(self):
        with self.assertRaises(errors.YardError) as caught:
            raise errors.BadBar(7)
        self.assertEqual(caught.exception.bar, 7)

    def test_bad_note_has_the_bar_and_the_place(self):
        with self.assertRaises(errors.YardError) as caught:
            raise errors.BadNote(7, 3)
        self.assertEqual((caught.exception.bar, caught.exception.place), (7, 3))

    def test_fields_are_those_of_each_object(self):
        first = errors.BadNote(0, 1)
        second = errors.BadNote(2, 3)
        self.assertEqual((first.bar, first.place), (0, 1))
        self.assertEqual((second.bar, second.place), (2, 3))

    def test_bad_bar_and_bad_note_can_be_written(self):
        self.assertIsInstance(str(errors.BadBar(0)), str)
        self.assertIsInstance(str(errors.BadNote(0, 0)), str)


if __name__ == "__main__":
    unittest.main()
