"""Drawings written as texts, and read from them [4, 9]."""

import inspect
import unittest

from tests import samples
from tests.samples import BARE, BARE_TEXT, EXAMPLE, EXAMPLE_TEXT, ONE_INNER
from threetrees import texts
from threetrees.errors import NoDrawing, NoText
from threetrees.texts import drawing_read, drawing_text


class Written(unittest.TestCase):
    def test_arguments(self):
        self.assertEqual(list(inspect.signature(texts.drawing_text).parameters), ["drawing"])
        self.assertEqual(list(inspect.signature(texts.drawing_read).parameters), ["text"])

    def test_example(self):
        self.assertEqual(drawing_text(EXAMPLE), EXAMPLE_TEXT)
        self.assertEqual(drawing_read(EXAMPLE_TEXT), EXAMPLE)

    def test_without_inner_places(self):
        self.assertEqual(drawing_text(BARE), BARE_TEXT)
        self.assertEqual(drawing_read(BARE_TEXT), BARE)

    def test_one_inner_place(self):
        self.assertEqual(drawing_text(ONE_INNER), "132 023 031 012")
        self.assertEqual(drawing_read("132 023 031 012"), ONE_INNER)

    def test_there_and_back(self):
        for n in range(3, 11):
            for by_lands in samples.some_by_lands(n):
                drawing = samples.drawing_by(by_lands)
                text = drawing_text(drawing)
                self.assertEqual(text.split(" "), ["".join(map(str, turn)) for turn in drawing])
                self.assertEqual(drawing_read(text), drawing)

    def test_turns_begin_with_whichever_when_read(self):
        self.assertEqual(drawing_read("21 20 10"), BARE)
        self.assertEqual(drawing_read("4213 302 1043 2401 203"), EXAMPLE)
        self.assertEqual(drawing_text(drawing_read("4213 302 1043 2401 203")), EXAMPLE_TEXT)

    def test_kinds(self):
        drawing = drawing_read(EXAMPLE_TEXT)
        self.assertIs(type(drawing), tuple)
        self.assertEqual({type(turn) for turn in drawing}, {tuple})
        self.assertEqual({type(q) for turn in drawing for q in turn}, {int})
        self.assertIs(type(drawing_text(drawing)), str)


class Refused(unittest.TestCase):
    def no_text(self, text, at):
        with self.subTest(text=text):
            with self.assertRaises(NoText) as caught:
                drawing_read(text)
            self.assertEqual(caught.exception.at, at)

    def no_drawing(self, text, word, at):
        with self.subTest(text=text):
            with self.assertRaises(NoDrawing) as caught:
                drawing_read(text)
            self.assertEqual((caught.exception.word, caught.exception.at), (word, at))

    def test_empty_words(self):
        self.no_text("", 0)
        self.no_text(" ", 0)
        self.no_text("  ", 0)
        self.no_text(" 12 02 01", 0)
        self.no_text("12  02 01", 1)
        self.no_text("12 02  01", 2)
        self.no_text("12 02 01 ", 3)
        self.no_text("12 02 01  ", 3)
        self.no_text(EXAMPLE_TEXT + " ", 5)
        self.no_text("1 " * 200, 200)

    def test_signs_that_are_no_figures(self):
        for sign in "abduxyzABCO/:;-+_.,()[]\"'\t\n\r\x0b\x0c\0%":
            self.no_text(sign, 0)
            self.no_text(sign + "12 02 01", 0)
            self.no_text("1" + sign + "2 02 01", 0)
            self.no_text("12 02" + sign + " 01", 1)
            self.no_text("12 02 01" + sign, 2)
            self.no_text("12 02 01 " + sign, 3)

    def test_figures_of_other_scripts_and_blanks_of_other_kinds(self):
        for sign in "\u00b2\u00b9\u2081\u0661\u0967\uff11\u2460\u00bd\u00a0\u2003\u3000\u200b\u4e00":
            self.no_text("12 02 0" + sign, 2)
            self.no_text(sign + " 02 01", 0)
            self.no_text("12" + sign + "02 01", 0)

    def test_the_first_such_word_is_told(self):
        self.no_text("12 x2 0x ", 1)
        self.no_text("12  x", 1)
        self.no_text("12 x ", 1)

    def test_no_text_comes_ahead_of_no_drawing(self):
        self.no_text("0 0 0 x", 3)
        self.no_text("12 ", 1)
        self.no_text("9 9 9 9 9 9 9 9 9 9 9 9 -", 12)

    def test_then_the_faults_of_turns(self):
        self.no_drawing("0", "count", 1)
        self.no_drawing("120201", "count", 1)
        self.no_drawing("12 02", "count", 2)
        self.no_drawing("1 0 1 0 1 0 1 0 1 0 1", "count", 11)
        self.no_drawing("12 02 03", "place", 2)
        self.no_drawing("12 12 01", "place", 1)
        self.no_drawing("12 02 011", "twice", 2)
        self.no_drawing("1" * 396 + " 0 0", "twice", 0)
        self.no_drawing("12 0 01", "back", 2)
        self.no_drawing("1 0 3 2", "apart", 2)
        self.no_drawing("1 02 1", "land", 0)
        self.no_drawing(" ".join("".join(map(str, turn)) for turn in samples.ON_A_RING), "flat", 14)
        self.no_drawing("123 032 013 021", "outer", 0)


if __name__ == "__main__":
    unittest.main()
