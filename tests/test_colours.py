"""Colours: outs of arrows, arrows of outs, and what are outs [4, 14, 15]."""

import inspect
import itertools
import unittest

from tests import samples
from tests.samples import (
    BARE, EXAMPLE, EXAMPLE_ARROWS, EXAMPLE_OUTS, NO_PLACES, ONE_INNER, ONE_INNER_ARROWS, ONE_INNER_OUTS,
)
from threetrees import colours
from threetrees.colours import arrows_of, is_outs, outs_of
from threetrees.orders import taken_off


def model_any_is_outs(lands, outs):
    """Of any triples: they are as many as the inner places, their arrows are arrows, and they are coloured right."""
    if len(outs) != max(map(max, lands)) - 2:
        return False
    arrows = tuple(sorted((3 + k, q) for k, triple in enumerate(outs) for q in triple))
    return arrows in samples.all_arrows_by_lands(lands) and samples.model_is_outs(lands, outs)


def with_triple(outs, k, triple):
    return (*outs[:k], tuple(triple), *outs[k + 1:])


class Interface(unittest.TestCase):
    def test_names_and_arguments(self):
        arguments = {"outs_of": ["drawing", "arrows"], "arrows_of": ["outs"], "is_outs": ["drawing", "outs"]}
        for name, names in arguments.items():
            self.assertEqual(list(inspect.signature(getattr(colours, name)).parameters), names)

    def test_kinds(self):
        outs = outs_of(EXAMPLE, EXAMPLE_ARROWS)
        self.assertEqual([type(outs), *map(type, outs)], [tuple] * 3)
        arrows = arrows_of(EXAMPLE_OUTS)
        self.assertEqual([type(arrows), *map(type, arrows)], [tuple] * 7)
        self.assertIs(is_outs(EXAMPLE, EXAMPLE_OUTS), True)
        self.assertIs(is_outs(EXAMPLE, ()), False)
        self.assertIs(is_outs(EXAMPLE, ((0, 1, 2), (0, 2, 3))), False)


class ThereAndBack(unittest.TestCase):
    def test_example(self):
        self.assertEqual(outs_of(EXAMPLE, EXAMPLE_ARROWS), EXAMPLE_OUTS)
        self.assertEqual(arrows_of(EXAMPLE_OUTS), EXAMPLE_ARROWS)

    def test_without_inner_places(self):
        self.assertEqual(outs_of(BARE, ()), ())
        self.assertEqual(arrows_of(()), ())

    def test_one_inner_place(self):
        self.assertEqual(outs_of(ONE_INNER, ONE_INNER_ARROWS), ONE_INNER_OUTS)
        self.assertEqual(arrows_of(ONE_INNER_OUTS), ONE_INNER_ARROWS)

    def test_arrows_of_outs_are_told_rising(self):
        self.assertEqual(arrows_of(((0, 5, 2), (0, 1, 3), (4, 1, 2))), (
            (3, 0), (3, 2), (3, 5), (4, 0), (4, 1), (4, 3), (5, 1), (5, 2), (5, 4)))

    def test_a_ring_that_goes_round_either_way(self):
        drawing = samples.drawing_by(samples.RINGED)
        for one in samples.all_arrows_by_lands(samples.RINGED):
            self.assertIn((3, 0), one)
            self.assertIn((3, 1), one)
        outs = [outs_of(drawing, one) for one in samples.all_arrows_by_lands(samples.RINGED)]
        self.assertEqual(sorted(outs), [((0, 1, 4), (5, 1, 2), (0, 3, 2)), ((0, 1, 5), (3, 1, 2), (0, 4, 2))])

    def test_arrows_of_taken_off(self):
        few = [lands for n in range(3, 11) for lands in samples.some_by_lands(n)]
        for lands in (*few, *samples.drawings_by_lands()):
            drawing = samples.drawing_by(lands)
            arrows = taken_off(drawing)[1]
            outs = outs_of(drawing, arrows)
            self.assertEqual(outs, samples.model_outs(lands, arrows))
            self.assertEqual(arrows_of(outs), arrows)
            self.assertIs(is_outs(drawing, outs), True)

    def test_all_arrows(self):
        for lands in samples.drawings_by_lands():
            drawing = samples.drawing_by(lands)
            for one in samples.all_arrows_by_lands(lands):
                outs = outs_of(drawing, one)
                self.assertEqual(outs, samples.model_outs(lands, one))
                self.assertEqual(arrows_of(outs), one)
                self.assertEqual(outs_of(drawing, arrows_of(outs)), outs)


class IsOuts(unittest.TestCase):
    def agrees(self, drawing, lands, outs):
        self.assertIs(is_outs(drawing, outs), model_any_is_outs(lands, outs), (drawing, outs))

    def test_outs_of_all_samples(self):
        for drawing, lands, outs in samples.with_outs():
            self.assertIs(is_outs(drawing, outs), True)

    def test_without_inner_places(self):
        self.assertIs(is_outs(BARE, ()), True)
        for triple in ((0, 1, 2), (1, 2, 0), (3, 3, 3)):
            self.assertIs(is_outs(BARE, (triple,)), False)

    def test_all_triples_of_one_inner_place(self):
        for triple in itertools.product(range(-1, 5), repeat=3):
            self.assertIs(is_outs(ONE_INNER, (triple,)), triple == (0, 1, 2))

    def test_all_triples_of_the_example(self):
        triples = list(itertools.product(range(-1, 6), repeat=3))
        for triple in triples:
            self.assertIs(is_outs(EXAMPLE, (triple, EXAMPLE_OUTS[1])), triple == EXAMPLE_OUTS[0])
            self.assertIs(is_outs(EXAMPLE, (EXAMPLE_OUTS[0], triple)), triple == EXAMPLE_OUTS[1])
        placed = list(itertools.permutations(range(5), 3))
        found = [outs for outs in itertools.product(placed, repeat=2) if is_outs(EXAMPLE, outs)]
        self.assertEqual(found, [EXAMPLE_OUTS])

    def test_each_way_to_colour_all_arrows(self):
        # All orders of the ends of the arrows at each of three inner places: just one for each arrows.
        for lands in (samples.RINGED, *samples.all_by_lands(6)[::11]):
            drawing = samples.drawing_by(lands)
            found = []
            for one in samples.all_arrows_by_lands(lands):
                ends = [[q for p, q in one if p == place] for place in (3, 4, 5)]
                orders = itertools.product(*[itertools.permutations(three) for three in ends])
                found.append([outs for outs in orders if is_outs(drawing, outs)])
            asked = [[samples.model_outs(lands, one)] for one in samples.all_arrows_by_lands(lands)]
            self.assertEqual(found, asked)

    def test_two_numbers_of_a_triple_exchanged(self):
        for drawing, lands, outs in samples.with_outs():
            for k, (a, b, c) in enumerate(outs):
                for triple in ((b, a, c), (a, c, b), (c, b, a)):
                    self.assertIs(is_outs(drawing, with_triple(outs, k, triple)), False)

    def test_a_triple_turned_on(self):
        for drawing, lands, outs in samples.with_outs():
            for k, (a, b, c) in enumerate(outs):
                for triple in ((b, c, a), (c, a, b)):
                    self.assertIs(is_outs(drawing, with_triple(outs, k, triple)), False)

    def test_all_triples_turned_on(self):
        for drawing, lands, outs in samples.with_outs():
            if len(outs) > 0:
                self.assertIs(is_outs(drawing, tuple((b, c, a) for a, b, c in outs)), False)
                self.assertIs(is_outs(drawing, tuple((c, b, a) for a, b, c in outs)), False)

    def test_a_number_made_another_one(self):
        for drawing, lands, outs in samples.with_outs():
            n = len(drawing)
            for k, i in itertools.product(range(len(outs)), range(3)):
                strange = NO_PLACES[(k + 3 * i + n) % len(NO_PLACES)]
                for q in (*range(-1, n + 1), outs[k][i] - n, strange):
                    triple = list(outs[k])
                    triple[i] = q
                    self.agrees(drawing, lands, with_triple(outs, k, triple))

    def test_two_triples_exchanged(self):
        for drawing, lands, outs in samples.with_outs():
            for j, k in itertools.combinations(range(len(outs)), 2):
                exchanged = list(outs)
                exchanged[j], exchanged[k] = outs[k], outs[j]
                self.agrees(drawing, lands, tuple(exchanged))

    def test_a_triple_less_or_more(self):
        for drawing, lands, outs in samples.with_outs():
            for k in range(len(outs)):
                self.assertIs(is_outs(drawing, outs[:k] + outs[k + 1:]), False)
                self.assertIs(is_outs(drawing, outs[:k] + outs[k:k + 1] + outs[k:]), False)
            self.assertIs(is_outs(drawing, (*outs, (0, 1, 2))), False)
            self.assertIs(is_outs(drawing, ((0, 1, 2), *outs)), False)

    def test_outs_of_other_drawings(self):
        drawn = [entry for entry in samples.with_outs() if len(entry[0]) in (5, 6)]
        for (drawing, lands, own), (other, other_lands, outs) in itertools.product(drawn, repeat=2):
            self.agrees(drawing, lands, outs)

    def test_outs_that_mix_those_of_two_arrows(self):
        for lands in (samples.NESTED, samples.BESIDE, *samples.rich_by_lands(8)):
            drawing = samples.drawing_by(lands)
            all_outs = [samples.model_outs(lands, one) for one in samples.all_arrows_by_lands(lands)]
            for one, other in itertools.permutations(all_outs, 2):
                for k in range(len(one)):
                    self.agrees(drawing, lands, one[:k] + other[k:])

    def test_any_whole_numbers(self):
        for triple in itertools.product((*NO_PLACES, 0, 3), repeat=3):
            self.assertIs(is_outs(ONE_INNER, (triple,)), False)
        for p in NO_PLACES:
            self.assertIs(is_outs(EXAMPLE, ((p, p, p), (p, p, p))), False)
            self.assertIs(is_outs(BARE, ((p, p, p),)), False)
        self.assertIs(is_outs(EXAMPLE, ((0, 1, 2),) * 400), False)
        self.assertIs(is_outs(BARE, ((0, 1, 2),) * 400), False)


if __name__ == "__main__":
    unittest.main()
