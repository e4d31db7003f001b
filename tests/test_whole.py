"""The whole: from texts to drawings with straight ties, from arrows to arrows, from rows and back [1, 3, 4]."""

import itertools
import unittest

from tests import samples
from threetrees.arrows import arrow_fault
from threetrees.colours import arrows_of, is_outs, outs_of
from threetrees.counts import all_pairs, many_pairs
from threetrees.desk import Desk
from threetrees.drawings import checked, inner_lands, inner_ties, lands, tied
from threetrees.errors import TreesError
from threetrees.fields import field
from threetrees.heights import greatest_below, heights, highest, is_below, least_above, lowest
from threetrees.numbers import numbers, points, side_of
from threetrees.orders import taken_off
from threetrees.rings import is_left, rings, turned
from threetrees.steps import of_rows, rows_of
from threetrees.texts import drawing_read, drawing_text
from threetrees.trees import walk, way_to
from threetrees.ways import all_arrows, way_between

TEXTS = [drawing_text(samples.drawing_by(by_lands)) for by_lands in samples.drawings_by_lands()]


def choices():
    """Ways to choose one of a row of rings."""
    return (lambda row: row[0], lambda row: row[-1], lambda row: row[len(row) // 2],
            lambda row: max(row, key=lambda ring: ring[::-1]))


class TheExample(unittest.TestCase):
    def test_all_that_is_told_of_it(self):
        drawing = drawing_read("1342 023 0431 0124 032")
        self.assertEqual(len(drawing), 5)
        self.assertEqual(inner_lands(drawing), [(0, 1, 3), (0, 3, 4), (0, 4, 2), (1, 2, 3), (2, 4, 3)])
        arrows = ((3, 0), (3, 1), (3, 2), (4, 0), (4, 2), (4, 3))
        self.assertEqual(all_arrows(drawing, 1), [arrows])
        outs = outs_of(drawing, arrows)
        self.assertEqual(outs, ((0, 1, 2), (0, 3, 2)))
        self.assertEqual(numbers(drawing, outs), ((5, 0, 0), (0, 5, 0), (0, 0, 5), (1, 3, 1), (2, 1, 2)))
        self.assertEqual(rows_of(drawing, outs), ("udud", "uudd"))
        self.assertEqual(of_rows("udud", "uudd"), (drawing, outs))

    def test_by_the_desk(self):
        desk = Desk()
        lines = ("draw 1342 023 0431 0124 032", "all", "outs", "numbers", "rows")
        self.assertEqual([desk.tell(line) for line in lines], [
            ["1342 023 0431 0124 032"], ["1"], ["012 032"], ["5,0,0", "0,5,0", "0,0,5", "1,3,1", "2,1,2"],
            ["udud/uudd"]])


class ToldByTexts(unittest.TestCase):
    def test_drawn_by_its_numbers(self):
        for text in TEXTS:
            drawing = drawing_read(text)
            for arrows in all_arrows(drawing, 400)[:4]:
                outs = outs_of(drawing, arrows)
                at = points(drawing, outs)
                sides = [side_of(at[a], at[b], at[c]) for a, b, c in inner_lands(drawing)]
                self.assertEqual(sides, [1] * (2 * len(drawing) - 5))
                self.assertEqual(len(set(at)), len(drawing))

    def test_drawn_on_a_field_by_the_desk(self):
        for text in TEXTS:
            desk = Desk()
            self.assertEqual(desk.tell("draw " + text), [text])
            at = {}
            for y, row in enumerate(reversed(desk.tell("field"))):
                at.update({int(sign): (x, y) for x, sign in enumerate(row) if sign != "."})
            drawing = desk.drawing()
            self.assertEqual(sorted(at), list(range(len(drawing))))
            for a, b, c in inner_lands(drawing):
                self.assertEqual(side_of(at[a], at[b], at[c]), 1)
            asked = [tuple(map(int, row.split(",")))[1:] for row in desk.tell("numbers")]
            self.assertEqual([at[place] for place in range(len(drawing))], asked)

    def test_whatever_turns_are_told(self):
        found = set()
        for a, b, c in itertools.product(["", "1", "2", "12", "21", "02", "20", "01", "10", "012"], repeat=3):
            try:
                drawing = drawing_read(f"{a} {b} {c}")
                self.assertEqual(len(lands(drawing)), 2)
                found.add(drawing)
            except TreesError:
                pass
        self.assertEqual(found, {samples.BARE})

    def test_a_place_is_greater_than_each_tie_that_it_is_not_at(self):
        for text in TEXTS:
            drawing = drawing_read(text)
            told = numbers(drawing, outs_of(drawing, lowest(drawing)))
            for p, q, r in itertools.permutations(range(len(drawing)), 3):
                if p < q and tied(drawing, p, q):
                    self.assertTrue(any(told[r][i] > max(told[p][i], told[q][i]) for i in range(3)))


class Arrows(unittest.TestCase):
    def test_every_drawing_has_arrows_and_these_have_outs(self):
        for text in TEXTS:
            drawing = drawing_read(text)
            order, arrows = taken_off(drawing)
            self.assertEqual(sorted(order), list(range(3, len(drawing))))
            self.assertIsNone(arrow_fault(drawing, list(arrows)))
            self.assertEqual(len(arrows), len(inner_ties(drawing)))
            for one in all_arrows(drawing, 400):
                outs = outs_of(drawing, one)
                self.assertTrue(is_outs(drawing, outs))
                self.assertEqual(arrows_of(outs), one)
                for place, colour in itertools.product(order, range(3)):
                    self.assertEqual(way_to(outs, place, colour)[-1], colour)

    def test_low_and_high_are_reached_by_left_rings_alone_and_by_right_rings_alone(self):
        for text, choice in itertools.product(TEXTS, choices()):
            drawing = drawing_read(text)
            ends = {True: lowest(drawing), False: highest(drawing)}
            for left, one in itertools.product((True, False), all_arrows(drawing, 400)[::4]):
                here = one
                row = [ring for ring in rings(drawing, here) if is_left(drawing, ring) == left]
                while row:
                    left_over = sum(map(abs, heights(drawing, here, ends[left])))
                    here = turned(drawing, here, choice(row))
                    self.assertLess(sum(map(abs, heights(drawing, here, ends[left]))), left_over)
                    row = [ring for ring in rings(drawing, here) if is_left(drawing, ring) == left]
                self.assertEqual(here, ends[left])

    def test_low_and_high_by_the_desk(self):
        for text, choice in itertools.product(TEXTS, choices()):
            desk = Desk()
            desk.tell("draw " + text)
            for start, letter, end in (("low", "r", "high"), ("high", "l", "low")):
                told = desk.tell(start)
                row = [ring for ring in desk.tell("rings") if ring[3] == letter]
                while row:
                    told = desk.tell("ring " + " ".join(choice(row)[:3]))
                    row = [ring for ring in desk.tell("rings") if ring[3] == letter]
                self.assertEqual(desk.tell(end), told)

    def test_any_two_are_led_to_one_another_and_have_one_below_and_one_above(self):
        for text in TEXTS:
            drawing = drawing_read(text)
            for one, other in itertools.product(all_arrows(drawing, 400)[::3], repeat=2):
                here, sides = one, []
                for ring in way_between(drawing, one, other):
                    sides.append(is_left(drawing, ring))
                    here = turned(drawing, here, ring)
                self.assertEqual(here, other)
                self.assertEqual(sides, sorted(sides, reverse=True))
                below, above = greatest_below(drawing, one, other), least_above(drawing, one, other)
                for each in (one, other):
                    self.assertTrue(is_below(drawing, below, each) and is_below(drawing, each, above))
                self.assertTrue(is_below(drawing, lowest(drawing), below))
                self.assertTrue(is_below(drawing, above, highest(drawing)))


class Rows(unittest.TestCase):
    def test_back_but_for_the_numbers_of_the_inner_places(self):
        for text in TEXTS:
            drawing = drawing_read(text)
            for one in all_arrows(drawing, 400)[:4]:
                outs = outs_of(drawing, one)
                made, made_outs = of_rows(*rows_of(drawing, outs))
                called = dict(enumerate([0, 1, 2, *walk(drawing, outs, 0)]))
                turns = {called[p]: [called[q] for q in turn] for p, turn in enumerate(made)}
                self.assertEqual(checked([turns[p] for p in range(len(drawing))]), drawing)
                triples = {called[3 + k]: tuple(called[q] for q in triple) for k, triple in enumerate(made_outs)}
                self.assertEqual(tuple(triples[p] for p in range(3, len(drawing))), outs)

    def test_each_pair_has_one_and_they_are_as_many_as_is_told(self):
        for m in range(5):
            made = {of_rows(*pair) for pair in all_pairs(m)}
            self.assertEqual(len(made), many_pairs(m))
            for drawing, outs in made:
                self.assertEqual(len(field(drawing, outs)), 2 * m + 2)
                self.assertIn(outs, [outs_of(drawing, one) for one in all_arrows(drawing, 400)])


if __name__ == "__main__":
    unittest.main()
