"""Ways between arrows by rings that are turned, and all arrows of a drawing [24, 28]."""

import inspect
import itertools
import unittest

from tests import samples
from tests.samples import BARE, EXAMPLE, EXAMPLE_ARROWS, ONE_INNER, ONE_INNER_ARROWS
from threetrees import ways as module
from threetrees.arrows import arrow_fault
from threetrees.errors import TooMany
from threetrees.heights import is_below
from threetrees.ways import all_arrows, way_between

MOST_RINGS = 1000


class Interface(unittest.TestCase):
    def test_names_and_arguments(self):
        self.assertEqual(list(inspect.signature(module.way_between).parameters), ["drawing", "one", "other"])
        self.assertEqual(list(inspect.signature(module.all_arrows).parameters), ["drawing", "most"])

    def test_kinds(self):
        drawing = samples.drawing_by(samples.RINGED)
        one, other = samples.all_arrows_by_lands(samples.RINGED)
        told = way_between(drawing, one, other)
        self.assertIs(type(told), list)
        self.assertEqual({type(ring) for ring in told}, {tuple})
        self.assertEqual({type(place) for ring in told for place in ring}, {int})
        told = all_arrows(drawing, 400)
        self.assertIs(type(told), list)
        self.assertEqual({type(arrows) for arrows in told}, {tuple})
        self.assertEqual({type(pair) for arrows in told for pair in arrows}, {tuple})


class Ways(unittest.TestCase):
    def gone(self, drawing, lands, one, other):
        """The way that is told, looked through ring by ring."""
        told = way_between(drawing, one, other)
        self.assertLessEqual(len(told), MOST_RINGS)
        here, sides = one, []
        for ring in told:
            self.assertIn(ring, samples.model_rings(lands, here))
            sides.append(samples.model_is_left(lands, ring))
            here = samples.model_turned(here, ring)
        self.assertEqual(here, other)
        self.assertEqual(sides, sorted(sides, reverse=True))
        return (told, sides)

    def test_just_one_way_to_set_arrows(self):
        for drawing, arrows in ((BARE, ()), (ONE_INNER, ONE_INNER_ARROWS), (EXAMPLE, EXAMPLE_ARROWS)):
            self.assertEqual(way_between(drawing, arrows, arrows), [])

    def test_one_ring(self):
        drawing = samples.drawing_by(samples.RINGED)
        left, right = samples.all_arrows_by_lands(samples.RINGED)
        for one, other in itertools.product((left, right), repeat=2):
            self.gone(drawing, samples.RINGED, one, other)
        self.assertIn((3, 4, 5), way_between(drawing, left, right))
        self.assertIn((3, 5, 4), way_between(drawing, right, left))

    def test_all_two_arrows(self):
        places, kinds = set(), set()
        for drawing, lands, one, other in samples.pairs_of_arrows():
            told, sides = self.gone(drawing, lands, one, other)
            if one != other:
                kinds.add((True in sides, False in sides))
            places.add(len(drawing))
        self.assertEqual(places, set(range(3, 11)))
        self.assertEqual(kinds, {(True, True), (True, False), (False, True)})

    def test_all_two_arrows_of_the_richest(self):
        for lands in samples.rich_by_lands(10):
            drawing = samples.drawing_by(lands)
            for one, other in itertools.product(samples.all_arrows_by_lands(lands), repeat=2):
                self.gone(drawing, lands, one, other)

    def test_to_themselves(self):
        for lands, one in samples.with_arrows():
            self.gone(samples.drawing_by(lands), lands, one, one)

    def test_there_and_back(self):
        for drawing, lands, one, other in samples.pairs_of_arrows():
            if one < other:
                there, sides = self.gone(drawing, lands, one, other)
                back, sides_back = self.gone(drawing, lands, other, one)
                here = one
                for ring in there + back:
                    here = samples.model_turned(here, ring)
                self.assertEqual(here, one)

    def test_below_and_yet_not_come_to_by_left_rings_alone(self):
        drawing = samples.drawing_by(samples.NESTED)
        by_rings = {tuple(samples.model_rings(samples.NESTED, one)): one
                    for one in samples.all_arrows_by_lands(samples.NESTED)}
        upper = by_rings[(3, 4, 5), (6, 8, 7)]
        under = by_rings[(3, 5, 4), (6, 7, 8)]
        self.assertTrue(is_below(drawing, under, upper))
        told, sides = self.gone(drawing, samples.NESTED, upper, under)
        self.assertEqual((sides[0], sides[-1]), (True, False))
        self.gone(drawing, samples.NESTED, under, upper)

    def test_rings_are_told_beginning_with_the_least(self):
        for drawing, lands, one, other in samples.pairs_of_arrows():
            for ring in way_between(drawing, one, other):
                self.assertEqual(ring, samples.begun(ring))


class AllArrows(unittest.TestCase):
    def test_just_one(self):
        for most in (1, 2, 399, 400):
            self.assertEqual(all_arrows(BARE, most), [()])
            self.assertEqual(all_arrows(ONE_INNER, most), [ONE_INNER_ARROWS])
            self.assertEqual(all_arrows(EXAMPLE, most), [EXAMPLE_ARROWS])

    def test_one_ring(self):
        drawing = samples.drawing_by(samples.RINGED)
        for most in (2, 3, 400):
            self.assertEqual(all_arrows(drawing, most), list(samples.all_arrows_by_lands(samples.RINGED)))
        self.assertRaises(TooMany, all_arrows, drawing, 1)

    def test_all_samples(self):
        counts = set()
        for lands in (*samples.all_by_lands(6), *samples.some_by_lands(10), *samples.drawings_by_lands()):
            drawing = samples.drawing_by(lands)
            told = all_arrows(drawing, 400)
            self.assertEqual(told, list(samples.all_arrows_by_lands(lands)))
            self.assertEqual(told, sorted(set(told)))
            for arrows in told:
                self.assertIsNone(arrow_fault(drawing, list(arrows)))
                self.assertEqual(arrows, tuple(sorted(arrows)))
            counts.add(len(told))
        self.assertLessEqual({1, 2, 3, 4, 20}, counts)

    def test_refused_just_where_there_are_more_than_the_told_number(self):
        for lands in samples.drawings_by_lands():
            drawing = samples.drawing_by(lands)
            row = list(samples.all_arrows_by_lands(lands))
            for most in (1, len(row) // 2, len(row) - 1, len(row), len(row) + 1, 400):
                if most >= len(row):
                    self.assertEqual(all_arrows(drawing, most), row)
                elif most >= 1:
                    self.assertRaises(TooMany, all_arrows, drawing, most)

    def test_a_number_somewhat_beyond(self):
        for lands in (samples.RINGED, samples.NESTED):
            row = list(samples.all_arrows_by_lands(lands))
            self.assertEqual(all_arrows(samples.drawing_by(lands), 401), row)
            self.assertEqual(all_arrows(samples.drawing_by(lands), 1000), row)


if __name__ == "__main__":
    unittest.main()
