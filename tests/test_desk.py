"""The desk: lines that change, lines that only ask, and what is refused [34, 35, 36, 37]."""

import copy
import inspect
import itertools
import random
import unittest
from unittest import mock

from tests import samples
from tests.samples import BARE, BARE_TEXT, EXAMPLE, EXAMPLE_ARROWS, EXAMPLE_TEXT, ONE_INNER
from threetrees import errors
from threetrees.colours import outs_of
from threetrees.deeds import deed_of
from threetrees.desk import Desk
from threetrees.fields import field
from threetrees.heights import highest, lowest
from threetrees.numbers import numbers
from threetrees.rings import is_left, rings, turned
from threetrees.steps import rows_of
from threetrees.texts import drawing_read, drawing_text
from threetrees.ways import all_arrows, way_between

ASKS = ("show", "outs", "rings", "rows", "numbers", "field", "all")
RINGED_TEXT = "1352 0243 0541 0145 1253 0342"
NESTED = samples.drawing_by(samples.NESTED)
# The words of lines, each with how many figures stand behind it.
FORMS = {"put": 3, "take": 1, "flip": 2, "ring": 3, "low": 0, "high": 0, "undo": 0, **{word: 0 for word in ASKS}}


def outs_text(drawing, arrows):
    return " ".join("".join(map(str, triple)) for triple in outs_of(drawing, arrows))


def laid(desk):
    return (desk.drawing(), desk.arrows(), desk.steps())


def told_all(*lines):
    desk = Desk()
    return (desk, [desk.tell(line) for line in lines])


def model_answer(word, drawing, arrows):
    outs = outs_of(drawing, arrows)
    if word == "show":
        return [drawing_text(drawing)]
    if word == "outs":
        return [outs_text(drawing, arrows)]
    if word == "rings":
        return ["%d%d%d%s" % (*ring, "r" if not is_left(drawing, ring) else "l") for ring in rings(drawing, arrows)]
    if word == "rows":
        return ["%s/%s" % rows_of(drawing, outs)]
    if word == "numbers":
        return ["%d,%d,%d" % triple for triple in numbers(drawing, outs)]
    if word == "field":
        return field(drawing, outs)
    return [str(len(all_arrows(drawing, 400)))]


class Interface(unittest.TestCase):
    def test_names_and_arguments(self):
        self.assertEqual(list(inspect.signature(Desk).parameters), [])
        self.assertEqual(list(inspect.signature(Desk().tell).parameters), ["line"])
        for name in ("drawing", "arrows", "steps"):
            self.assertEqual(list(inspect.signature(getattr(Desk(), name)).parameters), [])

    def test_kinds(self):
        desk = Desk()
        for line in ("draw " + RINGED_TEXT, "high", "ring 5 3 4", "low", "put 3 4 5", "undo", *ASKS):
            told = desk.tell(line)
            self.assertIs(type(told), list)
            self.assertEqual({type(text) for text in told}, {str})
            self.assertEqual([type(thing) for thing in laid(desk)], [tuple, tuple, int])
            self.assertEqual({type(turn) for turn in desk.drawing()} | {type(pair) for pair in desk.arrows()}, {tuple})

    def test_at_first(self):
        desk = Desk()
        self.assertEqual(laid(desk), (BARE, (), 0))
        answers = {word: desk.tell(word) for word in ASKS}
        self.assertEqual(answers, {
            "show": [BARE_TEXT], "outs": [""], "rings": [], "rows": ["/"], "numbers": ["1,0,0", "0,1,0", "0,0,1"],
            "field": ["2.", "01"], "all": ["1"]})
        self.assertEqual(laid(desk), (BARE, (), 0))


class Changes(unittest.TestCase):
    def test_draw(self):
        desk, told = told_all("draw " + EXAMPLE_TEXT)
        self.assertEqual(told, [[EXAMPLE_TEXT]])
        self.assertEqual(laid(desk), (EXAMPLE, EXAMPLE_ARROWS, 1))
        # Turns may begin with whichever place; they are answered as they are written.
        self.assertEqual(desk.tell("draw 321 302 310 120"), [drawing_text(ONE_INNER)])
        self.assertEqual(desk.drawing(), ONE_INNER)
        self.assertEqual(desk.tell("draw " + BARE_TEXT), [BARE_TEXT])
        self.assertEqual(laid(desk), (BARE, (), 3))

    def test_draw_lays_the_lowest_arrows_there(self):
        for k, lands in enumerate(samples.drawings_by_lands()):
            drawing = samples.drawing_by(lands)
            text = " ".join("".join(map(str, samples.turned_on(turn, k % len(turn)))) for turn in drawing)
            desk, told = told_all("draw " + text)
            self.assertEqual(told, [[drawing_text(drawing)]])
            self.assertEqual(laid(desk), (drawing, lowest(drawing), 1))

    def test_deeds(self):
        desk = Desk()
        self.assertEqual(desk.tell("put 0 1 2"), [drawing_text(ONE_INNER)])
        self.assertEqual(desk.tell("put 3 2 0"), [EXAMPLE_TEXT])
        self.assertEqual(laid(desk), (EXAMPLE, EXAMPLE_ARROWS, 2))
        self.assertEqual(desk.tell("flip 0 3"), [drawing_text(deed_of(("flip", 0, 3)).done(EXAMPLE))])
        self.assertEqual(desk.tell("flip 4 1"), [EXAMPLE_TEXT])
        self.assertEqual(desk.tell("take 4"), [drawing_text(ONE_INNER)])
        self.assertEqual(desk.tell("take 3"), [BARE_TEXT])
        self.assertEqual(laid(desk), (BARE, (), 6))

    def test_deeds_lay_the_lowest_arrows_there(self):
        for line in ("put 3 4 5", "put 0 1 3", "flip 0 3"):
            desk, told = told_all("draw " + RINGED_TEXT, "high")
            words = line.split(" ")
            made = deed_of((words[0], *map(int, words[1:]))).done(desk.drawing())
            self.assertEqual(desk.tell(line), [drawing_text(made)])
            self.assertEqual(laid(desk), (made, lowest(made), 3))
        desk, told = told_all("draw " + RINGED_TEXT, "put 3 4 5", "high", "take 6")
        self.assertEqual(told[-1], [RINGED_TEXT])
        self.assertEqual(desk.arrows(), lowest(desk.drawing()))
        self.assertNotEqual(desk.arrows(), highest(desk.drawing()))

    def test_low_and_high(self):
        for lands in samples.drawings_by_lands():
            drawing = samples.drawing_by(lands)
            low, high = lowest(drawing), highest(drawing)
            desk, told = told_all("draw " + drawing_text(drawing), "high", "high", "low", "low")
            asked = [[outs_text(drawing, arrows)] for arrows in (high, high, low, low)]
            self.assertEqual(told[1:], asked)
            self.assertEqual(laid(desk), (drawing, low, 5))
            desk.tell("undo")
            desk.tell("undo")
            self.assertEqual(laid(desk), (drawing, high, 3))

    def test_ring(self):
        desk = Desk()
        desk.tell("draw " + RINGED_TEXT)
        self.assertEqual(desk.tell("outs"), ["015 312 042"])
        self.assertEqual(desk.tell("ring 3 5 4"), ["014 512 032"])
        self.assertEqual(desk.arrows(), highest(desk.drawing()))
        # It may begin with any of its places.
        self.assertEqual(desk.tell("ring 5 3 4"), ["015 312 042"])
        self.assertEqual(desk.tell("ring 4 3 5"), ["014 512 032"])
        self.assertEqual(desk.steps(), 4)

    def test_each_ring_of_all_samples(self):
        for lands, one in samples.with_arrows():
            drawing = samples.drawing_by(lands)
            desk = self.desk_with(drawing, one)
            for ring in rings(drawing, one):
                before = laid(desk)
                made = turned(drawing, one, ring)
                self.assertEqual(desk.tell("ring %d %d %d" % ring), [outs_text(drawing, made)])
                self.assertEqual(laid(desk), (drawing, made, before[2] + 1))
                self.assertEqual(desk.tell("undo"), [drawing_text(drawing), outs_text(drawing, one)])
                self.assertEqual(laid(desk), before)

    def desk_with(self, drawing, arrows):
        desk, told = told_all("draw " + drawing_text(drawing))
        for ring in way_between(drawing, desk.arrows(), arrows):
            desk.tell("ring %d %d %d" % ring)
        self.assertEqual((desk.drawing(), desk.arrows()), (drawing, arrows))
        return desk


class Asks(unittest.TestCase):
    def test_the_example(self):
        desk, told = told_all("draw " + EXAMPLE_TEXT)
        self.assertEqual({word: desk.tell(word) for word in ASKS}, {
            "show": [EXAMPLE_TEXT], "outs": ["012 032"], "rings": [], "rows": ["udud/uudd"],
            "numbers": ["5,0,0", "0,5,0", "0,0,5", "1,3,1", "2,1,2"],
            "field": ["2.....", "......", "......", ".4....", "...3..", "0....1"], "all": ["1"]})

    def test_rings(self):
        desk, told = told_all("draw " + RINGED_TEXT)
        self.assertEqual(desk.tell("rings"), ["354r"])
        desk.tell("high")
        self.assertEqual(desk.tell("rings"), ["345l"])
        self.assertEqual(desk.tell("all"), ["2"])
        desk, told = told_all("draw " + drawing_text(NESTED), "rings", "high", "rings", "ring 6 7 8", "rings")
        self.assertEqual(told[1::2], [["354r", "687r"], ["345l", "678l"], ["345l", "687r"]])

    def test_all_samples(self):
        for lands, one in samples.with_arrows():
            drawing = samples.drawing_by(lands)
            for word, arrows in (("low", lowest(drawing)), ("high", highest(drawing))):
                desk, told = told_all("draw " + drawing_text(drawing), word)
                for ask in ASKS:
                    self.assertEqual(desk.tell(ask), model_answer(ask, drawing, arrows))
                self.assertEqual(laid(desk), (drawing, arrows, 2))

    def test_asking_changes_nothing(self):
        desk, told = told_all("draw " + drawing_text(NESTED), "high", "ring 3 4 5")
        before = laid(desk)
        answers = {word: desk.tell(word) for word in ASKS}
        for first, second in itertools.product(ASKS, repeat=2):
            self.assertEqual(desk.tell(first), answers[first])
            self.assertEqual(desk.tell(second), answers[second])
            self.assertEqual(laid(desk), before)
        self.assertEqual(desk.tell("undo"), [drawing_text(NESTED), outs_text(NESTED, highest(NESTED))])

    def test_large_numbers(self):
        # Of ten places the numbers have two figures, and the place 9 is still one sign.
        drawing = samples.drawing_by(samples.rich_by_lands(10)[0])
        desk, told = told_all("draw " + drawing_text(drawing))
        self.assertEqual(desk.tell("numbers")[:3], ["15,0,0", "0,15,0", "0,0,15"])
        self.assertEqual(len(desk.tell("numbers")), 10)
        self.assertEqual(sorted("".join(desk.tell("field")).replace(".", "")), list("0123456789"))
        self.assertEqual(desk.tell("all"), [str(len(samples.all_arrows_by_lands(samples.rich_by_lands(10)[0])))])
        self.assertEqual(len(desk.tell("outs")[0]), 7 * 4 - 1)


class Undo(unittest.TestCase):
    LINES = ("put 0 1 2", "low", "put 0 1 3", "draw " + EXAMPLE_TEXT, "draw " + EXAMPLE_TEXT, "high",
             "draw " + RINGED_TEXT, "high", "ring 3 4 5", "ring 3 5 4", "low", "low", "high", "put 3 4 5", "high",
             "flip 0 3", "take 6", "low", "draw " + drawing_text(NESTED), "high", "ring 6 7 8")

    def test_through_all_lines(self):
        desk, lay = Desk(), []
        for k, line in enumerate(self.LINES):
            lay.append((desk.drawing(), desk.arrows()))
            self.assertEqual(desk.steps(), k)
            desk.tell(line)
        while lay:
            self.assertEqual(desk.steps(), len(lay))
            drawing, arrows = lay.pop()
            self.assertEqual(desk.tell("undo"), [drawing_text(drawing), outs_text(drawing, arrows)])
            self.assertEqual(laid(desk), (drawing, arrows, len(lay)))
        self.assertEqual(laid(desk), (BARE, (), 0))
        self.assertRaises(errors.NothingDone, desk.tell, "undo")

    def test_the_first_answer_behind_all(self):
        desk, told = told_all("put 0 1 2", "undo")
        self.assertEqual(told[1], [BARE_TEXT, ""])

    def test_lines_that_change_nothing_are_undone_too(self):
        desk, told = told_all("low", "high", "draw " + BARE_TEXT, "low")
        self.assertEqual(told, [[""], [""], [BARE_TEXT], [""]])
        for left in (3, 2, 1, 0):
            self.assertEqual(desk.tell("undo"), [BARE_TEXT, ""])
            self.assertEqual(laid(desk), (BARE, (), left))
        self.assertRaises(errors.NothingDone, desk.tell, "undo")

    def test_an_undo_is_not_undone(self):
        desk, told = told_all("put 0 1 2", "put 0 1 3", "undo", "undo")
        self.assertEqual(laid(desk), (BARE, (), 0))
        desk, told = told_all("put 0 1 2", "put 0 1 3", "undo", "put 0 3 2", "undo", "undo")
        self.assertEqual(told[-2:], [[drawing_text(ONE_INNER), "012"], [BARE_TEXT, ""]])
        self.assertEqual(laid(desk), (BARE, (), 0))

    def test_neither_asks_nor_refused_lines_are_undone(self):
        desk = Desk()
        desk.tell("put 0 1 2")
        for line in (*ASKS, "put 0 0 0", "draw ", "ring 0 1 2", "nothing", "take 0"):
            try:
                desk.tell(line)
            except errors.TreesError:
                pass
            self.assertEqual(desk.steps(), 1)
        self.assertEqual(desk.tell("undo"), [BARE_TEXT, ""])

    def test_it_is_drawn_in_many_ways(self):
        dice = random.Random(34)
        desk, lay = Desk(), [(BARE, ())]
        counted = {}
        for again in range(1500):
            drawing, arrows = lay[-1]
            line = self.some_line(dice, drawing)
            word = line.partition(" ")[0]
            try:
                told = desk.tell(line)
                done = True
            except errors.TreesError:
                told, done = None, False
            made = self.model_made(line, lay)
            self.assertEqual(done, made is not None, line)
            if done:
                lay = made
                drawing, arrows = lay[-1]
                asked = {"undo": [drawing_text(drawing), outs_text(drawing, arrows)]}
                of_arrows = [outs_text(drawing, arrows)]
                asked.update({"ring": of_arrows, "low": of_arrows, "high": of_arrows})
                self.assertEqual(told, asked.get(word, [drawing_text(drawing)]), line)
            self.assertEqual(laid(desk), (*lay[-1], len(lay) - 1))
            counted[word, done] = counted.get((word, done), 0) + 1
        for word in ("put", "take", "flip", "ring", "undo", "low", "high", "draw"):
            self.assertGreater(counted[word, True], 3, word)
        for word in ("put", "take", "flip", "ring", "draw"):
            self.assertGreater(counted[word, False], 3, word)

    def some_line(self, dice, drawing):
        word = dice.choice("put put flip flip flip ring ring take low high undo draw".split())
        if word == "draw":
            text = dice.choice([EXAMPLE_TEXT, RINGED_TEXT, drawing_text(NESTED)])
            return "draw " + (text if dice.randrange(2) else text[:-1])
        if word == "ring" and dice.randrange(2):
            return "ring " + dice.choice(["3 4 5", "5 4 3", "6 7 8", "7 6 8"])
        return " ".join([word, *[str(dice.randrange(len(drawing))) for again in range(FORMS[word])]])

    def model_made(self, line, lay):
        """All that lies there and lay there behind the line; None where it is refused."""
        word, blank, rest = line.partition(" ")
        drawing, arrows = lay[-1]
        figures = tuple(map(int, rest.split())) if word != "draw" else ()
        try:
            if word == "undo":
                return lay[:-1] or None
            if word in ("low", "high"):
                return [*lay, (drawing, lowest(drawing) if word == "low" else highest(drawing))]
            if word == "ring":
                return [*lay, (drawing, turned(drawing, arrows, figures))]
            made = drawing_read(rest) if word == "draw" else deed_of((word, *figures)).done(drawing)
            return [*lay, (made, lowest(made))]
        except errors.TreesError:
            return None


class NoLines(unittest.TestCase):
    def assert_no_line(self, desk, line):
        before = laid(desk)
        with self.assertRaises(errors.TreesError, msg=line) as caught:
            desk.tell(line)
        self.assertIs(type(caught.exception), errors.NoLine, line)
        self.assertEqual(laid(desk), before)

    def desks(self):
        return [Desk(), told_all("draw " + EXAMPLE_TEXT)[0], told_all("draw " + RINGED_TEXT, "high")[0]]

    def lines(self):
        for word, many in FORMS.items():
            yield " ".join([word, *["3", "4", "5"][:many]])
        yield "draw " + EXAMPLE_TEXT

    def test_another_word(self):
        for desk in self.desks():
            for line in ("", "x", "Show", "SHOW", "shows", "sho", "ou", "out", "ring", "row", "number",
                         "draws 12 02 01", "Draw 12 02 01", "drawing", "redo", "redo 1", "lowest", "put3",
                         "put012", "help", "0", "3 4 5", "a" * 400, "1 2", "tell", "steps", "arrows",
                         "fields", "all arrows"):
                self.assert_no_line(desk, line)

    def test_blanks_too_many(self):
        for desk in self.desks():
            for line in self.lines():
                self.assert_no_line(desk, " " + line)
                if not line.startswith("draw"):
                    self.assert_no_line(desk, line + " ")
                    if " " in line:
                        self.assert_no_line(desk, line.replace(" ", "  "))
                        self.assert_no_line(desk, line.replace(" ", "  ", 1))
                        self.assert_no_line(desk, line[::-1].replace(" ", "  ", 1)[::-1])
                for sign in "\n\t\r\u00a0\u2003":
                    self.assert_no_line(desk, sign + line)
                    if not line.startswith("draw"):
                        self.assert_no_line(desk, line + sign)
                    if " " in line:
                        self.assert_no_line(desk, line.replace(" ", sign))
            for line in (" ", "  ", " " * 400, "put ", "put  ", "low ", " undo", "undo "):
                self.assert_no_line(desk, line)

    def test_words_too_few_or_too_many(self):
        figures = ["3", "4", "5", "0", "1"]
        for desk in self.desks():
            for word, many in FORMS.items():
                for other in range(6):
                    if other != many:
                        self.assert_no_line(desk, " ".join([word, *figures[:other]]))
            self.assert_no_line(desk, "put" + " 1" * 198)

    def test_what_is_no_figure(self):
        strange = ("10", "00", "01", "012", "-1", "+1", "x", "l", "O", "", ".", "1.", "\u0663", "\u00b2", "\uff13",
                   "3\n", "0x3", "True", "\u2460", "9" * 300)
        for desk in self.desks():
            for word, many in FORMS.items():
                for k in range(many):
                    for one in strange:
                        words = ["3", "4", "5"][:many]
                        words[k] = one
                        self.assert_no_line(desk, " ".join([word, *words]))

    def test_draw_without_a_blank(self):
        for desk in self.desks():
            for line in ("draw", "draw" + EXAMPLE_TEXT, "draw120201", "draw\n12 02 01", "draw12 02 01"):
                self.assert_no_line(desk, line)

    def test_it_comes_ahead_of_all_other_refusals(self):
        # With nothing to undo, and with places that could not be taken, put, turned or flipped either.
        for line in ("undo 1", "undo ", "undo undo", "take 10", "take 9 9", "put 0 0 10", "put 0 0", "flip 7 77",
                     "ring 0 0 0 0", "ring 0 0 x"):
            self.assert_no_line(Desk(), line)


class Refused(unittest.TestCase):
    FULL = drawing_text(samples.drawing_by(samples.some_by_lands(10)[0]))
    # What was told ahead, the line, the class of the refusal, and its values.
    TABLE = (
        ((), "undo", errors.NothingDone, {}),
        (("put 0 1 2", "undo"), "undo", errors.NothingDone, {}),
        ((), "draw ", errors.NoText, {"at": 0}),
        ((), "draw  12 02 01", errors.NoText, {"at": 0}),
        ((), "draw 12 02 01 ", errors.NoText, {"at": 3}),
        ((), "draw 12  02 01", errors.NoText, {"at": 1}),
        ((), "draw 12 02\n01", errors.NoText, {"at": 1}),
        ((), "draw 12 x2 y1", errors.NoText, {"at": 1}),
        ((), "draw " + EXAMPLE_TEXT + "\n", errors.NoText, {"at": 4}),
        ((), "draw draw 12 02 01", errors.NoText, {"at": 0}),
        ((), "draw" + " 0" * 198, errors.NoDrawing, {"word": "count", "at": 198}),
        ((), "draw " + "1" * 395, errors.NoDrawing, {"word": "count", "at": 1}),
        ((), "draw 12 02", errors.NoDrawing, {"word": "count", "at": 2}),
        ((), "draw 12 02 03", errors.NoDrawing, {"word": "place", "at": 2}),
        ((), "draw 12 022 01", errors.NoDrawing, {"word": "twice", "at": 1}),
        ((), "draw 12 02 0", errors.NoDrawing, {"word": "back", "at": 1}),
        ((), "draw 12 02 01 45 35 34", errors.NoDrawing, {"word": "apart", "at": 3}),
        ((), "draw 1 02 1", errors.NoDrawing, {"word": "land", "at": 0}),
        ((), "draw 123 032 013 021", errors.NoDrawing, {"word": "outer", "at": 0}),
        ((), "draw " + " ".join("".join(map(str, turn)) for turn in samples.ON_A_RING), errors.NoDrawing,
         {"word": "flat", "at": 14}),
        ((), "put 0 2 1", errors.NoLand, {}),
        ((), "put 0 0 0", errors.NoLand, {}),
        ((), "put 7 8 9", errors.NoLand, {}),
        (("draw " + FULL,), "put 0 2 1", errors.TooMany, {}),
        (("draw " + FULL,), "put 0 0 0", errors.TooMany, {}),
        ((), "take 2", errors.NoPlace, {}),
        ((), "take 9", errors.NoPlace, {}),
        (("draw " + EXAMPLE_TEXT,), "take 3", errors.NoPlace, {}),
        (("draw " + RINGED_TEXT,), "take 5", errors.NoPlace, {}),
        ((), "flip 0 1", errors.NoTie, {}),
        ((), "flip 3 3", errors.NoTie, {}),
        ((), "flip 8 9", errors.NoTie, {}),
        (("draw " + EXAMPLE_TEXT,), "flip 1 4", errors.NoTie, {}),
        (("draw " + EXAMPLE_TEXT,), "flip 3 1", errors.Tied, {"pair": (2, 0)}),
        (("draw " + EXAMPLE_TEXT,), "flip 1 3", errors.Tied, {"pair": (0, 2)}),
        ((), "ring 0 1 2", errors.NoRing, {}),
        ((), "ring 0 0 0", errors.NoRing, {}),
        ((), "ring 7 8 9", errors.NoRing, {}),
        (("draw " + EXAMPLE_TEXT,), "ring 0 3 4", errors.NoRing, {}),
        (("draw " + EXAMPLE_TEXT,), "ring 0 1 4", errors.NoRing, {}),
        (("draw " + RINGED_TEXT,), "ring 3 4 5", errors.NoRing, {}),
        (("draw " + RINGED_TEXT, "high"), "ring 3 5 4", errors.NoRing, {}),
    )

    def test_each_with_its_class_and_its_values(self):
        for ahead, line, refusal, values in self.TABLE:
            desk, told = told_all(*ahead)
            before = laid(desk)
            asked = [desk.tell(word) for word in ASKS]
            with self.assertRaises(errors.TreesError, msg=line) as caught:
                desk.tell(line)
            self.assertIs(type(caught.exception), refusal, line)
            for name, value in values.items():
                self.assertEqual(getattr(caught.exception, name), value, line)
            self.assertEqual(laid(desk), before)
            self.assertEqual([desk.tell(word) for word in ASKS], asked)

    def test_draw_with_a_word_of_another_line_behind(self):
        for word in ("draw", *FORMS):
            for ahead in ((), ("put 0 1 2",)):
                desk, told = told_all(*ahead)
                before = laid(desk)
                with self.assertRaises(errors.NoText) as caught:
                    desk.tell("draw " + word)
                self.assertEqual(caught.exception.at, 0)
                self.assertEqual(laid(desk), before)

    def test_all_with_more_than_four_hundred(self):
        # No drawing of up to ten places has so many, so what is asked is looked at, and that the refusal is handed on.
        desk, told = told_all("draw " + RINGED_TEXT, "high")
        before = laid(desk)
        with mock.patch("threetrees.desk.all_arrows", side_effect=errors.TooMany("more")) as asked:
            self.assertRaises(errors.TooMany, desk.tell, "all")
        asked.assert_called_once_with(desk.drawing(), 400)
        self.assertEqual(laid(desk), before)
        self.assertEqual(desk.tell("all"), ["2"])

    def test_all_of_them_one_behind_the_other(self):
        desk, told = told_all("draw " + drawing_text(NESTED), "high", "ring 3 4 5")
        lay = [desk.drawing(), desk.arrows()]
        for ahead, line, refusal, values in self.TABLE:
            if refusal in (errors.NoText, errors.NoDrawing, errors.NoLand):
                self.assertRaises(refusal, desk.tell, line)
        for line in ("take 8", "take 3", "flip 0 1", "flip 0 8", "ring 3 4 5", "ring 0 3 1", "undone"):
            self.assertRaises(errors.TreesError, desk.tell, line)
        self.assertEqual([desk.drawing(), desk.arrows()], lay)
        self.assertEqual(desk.steps(), 3)
        self.assertEqual(desk.tell("undo"), [drawing_text(NESTED), outs_text(NESTED, highest(NESTED))])

    def test_ten_places(self):
        desk = Desk()
        for p in range(3, 10):
            desk.tell("put 0 1 %d" % (2 if p == 3 else p - 1))
        self.assertEqual((len(desk.drawing()), desk.steps()), (10, 7))
        before = laid(desk)
        self.assertRaises(errors.TooMany, desk.tell, "put 0 1 9")
        self.assertEqual(laid(desk), before)
        desk.tell("take 9")
        desk.tell("put 0 1 8")
        self.assertEqual((desk.drawing(), desk.arrows()), before[:2])


class Kept(unittest.TestCase):
    LINES = ("draw " + RINGED_TEXT, *ASKS, "high", *ASKS, "ring 3 4 5", "put 3 4 5", *ASKS, "flip 0 3", "low", "undo",
             "undo", *ASKS, "take 6", "undo", "undo", "undo", "undo", "undo")

    def test_an_answer_that_is_changed_changes_nothing(self):
        desk, other = Desk(), Desk()
        for line in self.LINES:
            told = desk.tell(line)
            self.assertEqual(told, other.tell(line))
            told.append("more")
            told.reverse()
            told.clear()
            self.assertEqual(laid(desk), laid(other))

    def test_each_answer_is_a_new_list(self):
        desk = Desk()
        kept = [desk.tell(line) for line in self.LINES]
        before = copy.deepcopy(kept)
        self.assertEqual(len({id(told) for told in kept}), len(kept))
        for line in ("put 0 1 2", "put 0 1 3", *ASKS):
            desk.tell(line).clear()
        self.assertEqual(kept, before)

    def test_two_desks_beside_one_another(self):
        one, other = Desk(), Desk()
        one.tell("draw " + RINGED_TEXT)
        self.assertEqual(laid(other), (BARE, (), 0))
        other.tell("put 0 1 2")
        other.tell("put 0 3 2")
        self.assertEqual((one.tell("show"), other.tell("show")), ([RINGED_TEXT], [EXAMPLE_TEXT]))
        self.assertEqual((one.steps(), other.steps()), (1, 2))
        one.tell("high")
        one.tell("undo")
        one.tell("undo")
        self.assertEqual(laid(one), (BARE, (), 0))
        self.assertEqual(laid(other), (EXAMPLE, EXAMPLE_ARROWS, 2))
        self.assertRaises(errors.NothingDone, one.tell, "undo")
        self.assertEqual(other.tell("undo"), [drawing_text(ONE_INNER), "012"])
        self.assertEqual(laid(Desk()), (BARE, (), 0))

    def test_alike_lines_have_alike_answers(self):
        self.assertEqual(told_all(*self.LINES)[1], told_all(*self.LINES)[1])


if __name__ == "__main__":
    unittest.main()
