"""Rows of steps: of a drawing with outs, and the drawing with outs of a pair of them [4, 29, 30, 31, 32]."""

import inspect
import itertools
import random
import unittest

from tests import samples
from tests.samples import BARE, EXAMPLE, EXAMPLE_OUTS, ONE_INNER, ONE_INNER_OUTS
from threetrees import steps as module
from threetrees.colours import arrows_of, is_outs
from threetrees.counts import all_pairs
from threetrees.drawings import checked
from threetrees.errors import NoRows
from threetrees.steps import of_rows, rows_of
from threetrees.trees import walk


def model_tree(drawing, outs, place):
    """The tree of colour 0 at a place: each child with its own tree, in the order of the walk."""
    turn = drawing[place]
    first = 1 if place == 0 else outs[place - 3][1]
    met = samples.turned_on(turn, turn.index(first))
    return [(q, model_tree(drawing, outs, q)) for q in met if q > 2 and outs[q - 3][0] == place]


def model_walk(tree):
    return [place for child, below in tree for place in (child, *model_walk(below))]


def model_first(tree):
    return "".join("u" + model_first(below) + "d" for child, below in tree)


def model_rows_of(drawing, outs):
    tree = model_tree(drawing, outs, 0)
    # Colour 2 of each place leads to one that is walked behind it, or to the corner 2 at the end.
    ends = [triple[2] for triple in outs]
    second = "".join("d" * ends.count(place) + "u" for place in model_walk(tree))
    return (model_first(tree), second + "d" * ends.count(2))


def called_in_the_order_of_the_walk(drawing, lands, outs):
    """The same drawing with the same outs, but for the numbers of its inner places."""
    order = model_walk(model_tree(drawing, outs, 0))
    called = {0: 0, 1: 1, 2: 2, **{place: 3 + k for k, place in enumerate(order)}}
    new = samples.renamed(lands, [called[3 + k] for k in range(len(outs))])
    return (samples.drawing_by(new), tuple(tuple(called[q] for q in outs[place - 3]) for place in order))


def model_row_fault(row):
    for k in range(len(row)):
        head = row[:k + 1]
        if not set(head) <= {"u", "d"} or head.count("u") == 8 or head.count("d") > head.count("u"):
            return k
    return None if row.count("d") == row.count("u") else len(row)


def model_fault(first, second):
    """The first fault of two texts, told word for word as in the document; None for a pair."""
    for word, row in (("first", first), ("second", second)):
        if model_row_fault(row) is not None:
            return (word, model_row_fault(row))
    if len(first) != len(second):
        return ("length", len(second))
    ahead = [[part.count("d") for part in itertools.accumulate(row.split("u")[:-1])] for row in (first, second)]
    return min([("over", i) for i, (one, other) in enumerate(zip(*ahead)) if other > one], default=None)


def drawn_pairs(m, many):
    """Some pairs of m inner places, spread over all of them; of seven, over such as begin alike in both rows too."""
    if m < 7:
        pairs = samples.model_pairs(m)
        return pairs[::1 + len(pairs) // many]
    rows = samples.model_rows(m)
    dice = random.Random(m)
    found = set()
    while len(found) < many:
        first, second = dice.choice(rows), dice.choice(rows)
        if samples.model_is_pair(first, second):
            found.add((first, second))
    return sorted(found)


class Interface(unittest.TestCase):
    def test_names_and_arguments(self):
        self.assertEqual(list(inspect.signature(module.rows_of).parameters), ["drawing", "outs"])
        self.assertEqual(list(inspect.signature(module.of_rows).parameters), ["first", "second"])

    def test_kinds(self):
        told = rows_of(EXAMPLE, EXAMPLE_OUTS)
        self.assertEqual((type(told), [type(row) for row in told]), (tuple, [str, str]))
        told = of_rows("udud", "uudd")
        self.assertEqual((type(told), [type(half) for half in told]), (tuple, [tuple, tuple]))
        self.assertEqual({type(turn) for turn in told[0]} | {type(triple) for triple in told[1]}, {tuple})
        self.assertEqual({type(q) for half in told for row in half for q in row}, {int})


class RowsOf(unittest.TestCase):
    def test_the_example(self):
        self.assertEqual(rows_of(EXAMPLE, EXAMPLE_OUTS), ("udud", "uudd"))

    def test_few_places(self):
        self.assertEqual(rows_of(BARE, ()), ("", ""))
        self.assertEqual(rows_of(ONE_INNER, ONE_INNER_OUTS), ("ud", "ud"))

    def test_a_ring_that_goes_round_either_way(self):
        drawing = samples.drawing_by(samples.RINGED)
        self.assertEqual(rows_of(drawing, ((0, 1, 4), (5, 1, 2), (0, 3, 2))), ("uduudd", "uududd"))
        self.assertEqual(rows_of(drawing, ((0, 1, 5), (3, 1, 2), (0, 4, 2))), ("uuddud", "uududd"))

    def test_all_samples(self):
        found = set()
        for drawing, lands, outs in samples.with_outs():
            told = rows_of(drawing, outs)
            self.assertEqual(told, model_rows_of(drawing, outs))
            found.add(len(told[0]) // 2)
        self.assertEqual(found, set(range(8)))

    def test_they_are_a_pair(self):
        for drawing, lands, outs in samples.with_outs():
            first, second = rows_of(drawing, outs)
            self.assertEqual((len(first), len(second)), (2 * len(outs), 2 * len(outs)))
            self.assertIsNone(model_fault(first, second))

    def test_numbers_of_inner_places_do_not_matter(self):
        for lands in (samples.NESTED, samples.BESIDE, *samples.rich_by_lands(9)):
            counted = {}
            for k in range(6):
                other = samples.mixed(lands, k)
                told = {rows_of(samples.drawing_by(other), samples.model_outs(other, arrows))
                        for arrows in samples.all_arrows_by_lands(other)}
                self.assertEqual(len(told), len(samples.all_arrows_by_lands(other)))
                counted[frozenset(told)] = k
            self.assertEqual(len(counted), 1)


class OfRows(unittest.TestCase):
    def test_the_example(self):
        self.assertEqual(of_rows("udud", "uudd"), (EXAMPLE, EXAMPLE_OUTS))

    def test_few_places(self):
        self.assertEqual(of_rows("", ""), (BARE, ()))
        self.assertEqual(of_rows("ud", "ud"), (ONE_INNER, ONE_INNER_OUTS))

    def test_two_inner_places(self):
        self.assertEqual(of_rows("udud", "udud"), (
            ((1, 3, 4, 2), (0, 2, 4, 3), (0, 4, 1), (0, 1, 4), (0, 3, 1, 2)), ((0, 1, 4), (0, 1, 2))))
        self.assertEqual(of_rows("uudd", "uudd"), (
            ((1, 3, 2), (0, 2, 4, 3), (0, 3, 4, 1), (0, 1, 4, 2), (1, 2, 3)), ((0, 1, 2), (3, 1, 2))))

    def test_each_of_all_drawings_with_outs_of_few_places(self):
        # By trying: those whose inner places are called in the order of the walk, each with the rows it has.
        for m in range(4):
            found = {}
            for lands in samples.all_by_lands(m + 3):
                drawing = samples.drawing_by(lands)
                for arrows in samples.all_arrows_by_lands(lands):
                    outs = samples.model_outs(lands, arrows)
                    if model_walk(model_tree(drawing, outs, 0)) == list(range(3, m + 3)):
                        found.setdefault(model_rows_of(drawing, outs), []).append((drawing, outs))
            self.assertEqual(sorted(found), list(samples.model_pairs(m)))
            for pair, row in found.items():
                self.assertEqual([of_rows(*pair)], row)

    def test_back_from_the_rows_of_all_samples(self):
        for drawing, lands, outs in samples.with_outs():
            asked = called_in_the_order_of_the_walk(drawing, lands, outs)
            self.assertEqual(of_rows(*rows_of(drawing, outs)), asked)

    def test_all_arrows_of_the_richest(self):
        for lands in samples.rich_by_lands(10):
            drawing = samples.drawing_by(lands)
            for arrows in samples.all_arrows_by_lands(lands):
                outs = samples.model_outs(lands, arrows)
                asked = called_in_the_order_of_the_walk(drawing, lands, outs)
                self.assertEqual(of_rows(*rows_of(drawing, outs)), asked)

    def there_and_back(self, pair):
        drawing, outs = of_rows(*pair)
        self.assertEqual(len(drawing), 3 + len(pair[0]) // 2)
        self.assertEqual(checked(list(drawing)), drawing)
        self.assertTrue(is_outs(drawing, outs))
        self.assertEqual(len(arrows_of(outs)), 3 * len(drawing) - 9)
        self.assertEqual(walk(drawing, outs, 0), list(range(3, len(drawing))))
        self.assertEqual(rows_of(drawing, outs), pair)
        return (drawing, outs)

    def test_there_and_back_for_all_pairs_of_few_inner_places(self):
        for m in range(5):
            made = [self.there_and_back(pair) for pair in all_pairs(m)]
            self.assertEqual(len(set(made)), len(made))

    def test_there_and_back_for_drawn_pairs_of_up_to_seven(self):
        for m in (5, 6, 7):
            pairs = drawn_pairs(m, 300)
            self.assertGreater(len(pairs), 150)
            made = [self.there_and_back(pair) for pair in pairs]
            self.assertEqual(len(set(made)), len(made))

    def test_the_outermost_of_seven(self):
        deep, flat = "u" * 7 + "d" * 7, "ud" * 7
        for pair in ((deep, deep), (flat, flat), (flat, deep)):
            self.there_and_back(pair)


class Refused(unittest.TestCase):
    def assert_refused(self, first, second, word, at):
        self.assertEqual(model_fault(first, second), (word, at))
        with self.assertRaises(NoRows) as caught:
            of_rows(first, second)
        self.assertEqual((caught.exception.word, caught.exception.at), (word, at))
        self.assertIs(type(caught.exception.at), int)

    def test_signs(self):
        for sign in ("x", "U", "D", " ", "\n", "0", "/", "\u00fc", "\uff55", "\U0001d4ca"):
            for k in range(5):
                row = "udud"[:k] + sign + "udud"[k:]
                self.assert_refused(row, "udud", "first", k)
                self.assert_refused("udud", row, "second", k)
                self.assert_refused(row, row, "first", k)

    def test_the_eighth_u(self):
        deep = "u" * 8 + "d" * 8
        flat = "ud" * 8
        seven = "u" * 7 + "d" * 7
        self.assert_refused(deep, deep, "first", 7)
        self.assert_refused(flat, flat, "first", 14)
        self.assert_refused(seven, deep, "second", 7)
        self.assert_refused(seven, flat, "second", 14)
        self.assert_refused(seven + "u", seven, "first", 14)
        self.assert_refused("u" * 8, "", "first", 7)
        self.assertEqual(rows_of(*of_rows(seven, seven)), (seven, seven))

    def test_a_d_too_many(self):
        for row, k in (("d", 0), ("du", 0), ("udd", 2), ("uddu", 2), ("uudddu", 4), ("u" * 7 + "d" * 8, 14)):
            self.assert_refused(row, "ud", "first", k)
            self.assert_refused("ud", row, "second", k)

    def test_a_row_that_ends_too_soon(self):
        for row in ("u", "uud", "udu", "u" * 7, "uuduudd"):
            self.assert_refused(row, "ud", "first", len(row))
            self.assert_refused("ud", row, "second", len(row))

    def test_unlike_lengths(self):
        for first, second in (("", "ud"), ("ud", ""), ("udud", "ud"), ("ud", "uudd"), ("ud" * 7, "uudd")):
            self.assert_refused(first, second, "length", len(second))

    def test_over(self):
        self.assert_refused("uudd", "udud", "over", 1)
        self.assert_refused("uuuddd", "uududd", "over", 2)
        self.assert_refused("uuuddd", "ududud", "over", 1)
        self.assert_refused("uduudd", "ududud", "over", 2)
        self.assert_refused("u" * 7 + "d" * 7, "ud" * 7, "over", 1)
        self.assert_refused("u" * 7 + "d" * 7, "u" * 6 + "dud" + "d" * 5, "over", 6)

    def test_which_comes_first(self):
        # Each with a first row, a second row and what is found; in all of them also what would be found behind.
        table = (
            ("ux", "x", "first", 1), ("ddx", "x", "first", 0), ("uddx", "", "first", 2),
            ("ud" * 7 + "udx", "d", "first", 14),
            ("uu", "x", "first", 2), ("uux", "u", "first", 2), ("udu", "uddu", "first", 3), ("d", "d", "first", 0),
            ("uudd", "dudu", "second", 0), ("uudd", "ududx", "second", 4), ("uudd", "ud" * 8, "second", 14),
            ("uudd", "udu", "second", 3), ("uudd", "ududud", "length", 6), ("uuuddd", "udud", "length", 4),
            ("uuuddd", "ududud", "over", 1),
        )
        for first, second, word, at in table:
            self.assert_refused(first, second, word, at)

    def test_long_texts(self):
        for long, at in (("u" * 400, 7), ("d" * 400, 0), ("ud" * 200, 14), ("udx" + "u" * 397, 2), (" " * 400, 0)):
            self.assert_refused(long, long, "first", at)
            self.assert_refused(long, "", "first", at)
            self.assert_refused("ud", long, "second", at)
            self.assert_refused("x", long, "first", 0)

    def test_all_short_texts(self):
        texts = ["".join(signs) for size in range(5) for signs in itertools.product("udx", repeat=size)]
        found = {}
        for first, second in itertools.product(texts, repeat=2):
            fault = model_fault(first, second)
            if fault is None:
                self.assertEqual(rows_of(*of_rows(first, second)), (first, second))
            else:
                self.assert_refused(first, second, *fault)
            found.setdefault(fault and fault[0], []).append((first, second))
        self.assertEqual(sorted(found[None]), sorted(all_pairs(0) + all_pairs(1) + all_pairs(2)))
        self.assertEqual(set(found), {None, "first", "second", "length", "over"})

    def test_all_rows_of_one_length(self):
        found = set()
        for m in (3, 4):
            for first, second in itertools.product(samples.model_rows(m), repeat=2):
                fault = model_fault(first, second)
                self.assertEqual(fault is None, (first, second) in samples.model_pairs(m))
                if fault is not None:
                    self.assert_refused(first, second, *fault)
                    found.add(fault)
        self.assertEqual(found, {("over", 1), ("over", 2), ("over", 3)})

    def test_rows_that_are_nearly_a_pair(self):
        for m in (5, 6, 7):
            for k, (first, second) in enumerate(drawn_pairs(m, 60)):
                at = k % (2 * m)
                for sign in ("u", "d", "x", ""):
                    for pair in ((first[:at] + sign + first[at + 1:], second),
                                 (first, second[:at] + sign + second[at + 1:]), (second, first)):
                        fault = model_fault(*pair)
                        if fault is not None:
                            self.assert_refused(*pair, *fault)


if __name__ == "__main__":
    unittest.main()
