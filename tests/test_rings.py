"""Rings: their inside, their side, rings of arrows, and arrows turned along them [22, 23]."""

import inspect
import itertools
import unittest

from tests import samples
from tests.samples import BARE, EXAMPLE, EXAMPLE_ARROWS, NO_PLACES, ONE_INNER, ONE_INNER_ARROWS
from threetrees import rings as module
from threetrees.arrows import arrow_fault
from threetrees.drawings import inner_lands
from threetrees.errors import NoRing
from threetrees.rings import inside, is_left, rings, turned


def each_beginning(ring):
    return [samples.turned_on(ring, k) for k in range(3)]


def is_ring(lands, ring):
    tied = samples.third_corners(lands)
    return all(way in tied for way in samples.ways_round(ring))


class Interface(unittest.TestCase):
    def test_names_and_arguments(self):
        arguments = {
            "inside": ["drawing", "ring"], "is_left": ["drawing", "ring"], "rings": ["drawing", "arrows"],
            "turned": ["drawing", "arrows", "ring"],
        }
        for name, names in arguments.items():
            self.assertEqual(list(inspect.signature(getattr(module, name)).parameters), names)

    def test_kinds(self):
        drawing = samples.drawing_by(samples.RINGED)
        arrows = samples.all_arrows_by_lands(samples.RINGED)[0]
        told = inside(drawing, (3, 4, 5))
        self.assertEqual([type(told), type(told[0])], [list, tuple])
        told = rings(drawing, arrows)
        self.assertEqual([type(told), type(told[0])], [list, tuple])
        told = turned(drawing, arrows, told[0])
        self.assertEqual([type(told), *map(type, told)], [tuple] * 10)


class Inside(unittest.TestCase):
    def test_without_inner_places(self):
        for ring in each_beginning((0, 1, 2)) + each_beginning((0, 2, 1)):
            self.assertEqual(inside(BARE, ring), [(0, 1, 2)])

    def test_the_corners(self):
        for lands in samples.drawings_by_lands():
            drawing = samples.drawing_by(lands)
            for ring in each_beginning((0, 1, 2)) + each_beginning((0, 2, 1)):
                self.assertEqual(inside(drawing, ring), inner_lands(drawing))
            self.assertEqual([is_left(drawing, ring) for ring in each_beginning((0, 1, 2))], [True] * 3)
            self.assertEqual([is_left(drawing, ring) for ring in each_beginning((0, 2, 1))], [False] * 3)

    def test_example(self):
        self.assertEqual(inside(EXAMPLE, (0, 3, 2)), [(0, 3, 4), (0, 4, 2), (2, 4, 3)])
        self.assertEqual(inside(EXAMPLE, (3, 0, 2)), [(0, 3, 4), (0, 4, 2), (2, 4, 3)])
        self.assertEqual(inside(EXAMPLE, (0, 1, 3)), [(0, 1, 3)])
        self.assertEqual(inside(EXAMPLE, (3, 1, 0)), [(0, 1, 3)])
        self.assertIs(is_left(EXAMPLE, (0, 3, 2)), True)
        self.assertIs(is_left(EXAMPLE, (3, 0, 2)), False)
        self.assertIs(is_left(EXAMPLE, (3, 0, 1)), True)
        self.assertIs(is_left(EXAMPLE, (3, 1, 0)), False)

    def test_a_ring_within_a_ring(self):
        drawing = samples.drawing_by(samples.NESTED)
        self.assertEqual(inside(drawing, (6, 7, 8)), [(6, 7, 8)])
        self.assertEqual(inside(drawing, (5, 4, 3)), sorted(land for land in samples.NESTED if min(land) > 2))
        self.assertEqual(len(inside(drawing, (3, 4, 5))), 7)

    def test_each_inner_land_is_inside_of_its_own_ring_alone(self):
        for lands in samples.drawings_by_lands():
            drawing = samples.drawing_by(lands)
            for land in samples.inner_of(lands):
                for ring in each_beginning(land):
                    self.assertEqual(inside(drawing, ring), [land])
                    self.assertEqual(inside(drawing, ring[::-1]), [land])
                    self.assertIs(is_left(drawing, ring), True)
                    self.assertIs(is_left(drawing, ring[::-1]), len(drawing) == 3 and ring[::-1] == land)

    def test_each_ring_of_all_samples(self):
        with_places = 0
        for lands in samples.drawings_by_lands():
            drawing = samples.drawing_by(lands)
            for ring in samples.all_rings(lands):
                asked = samples.model_inside(lands, ring)
                with_places += 1 < len(asked) < len(lands) - 1
                for begun in each_beginning(ring):
                    self.assertEqual(inside(drawing, begun), asked, (drawing, begun))
                    self.assertIs(is_left(drawing, begun), samples.model_is_left(lands, ring), (drawing, begun))
        self.assertGreater(with_places, 50)

    def test_each_ring_is_a_left_one_one_way_round(self):
        for lands in samples.drawings_by_lands():
            drawing = samples.drawing_by(lands)
            for a, b, c in samples.all_rings(lands):
                self.assertIs(is_left(drawing, (a, b, c)), not is_left(drawing, (a, c, b)))
                self.assertEqual(inside(drawing, (a, b, c)), inside(drawing, (c, b, a)))


class NoRings(unittest.TestCase):
    def refused(self, drawing, arrows, ring):
        for ask in (inside, is_left):
            with self.assertRaises(NoRing):
                ask(drawing, ring)
        with self.assertRaises(NoRing):
            turned(drawing, arrows, ring)

    def test_all_triples_of_numbers(self):
        for n in (3, 4, 5):
            for lands in samples.all_by_lands(n):
                drawing = samples.drawing_by(lands)
                arrows = samples.all_arrows_by_lands(lands)[0]
                for ring in itertools.product(range(-2, n + 2), repeat=3):
                    if is_ring(lands, ring):
                        self.assertEqual(inside(drawing, ring), samples.model_inside(lands, ring))
                    else:
                        self.refused(drawing, arrows, ring)

    def test_all_triples_of_places_of_some(self):
        for lands, arrows in samples.with_arrows()[::6]:
            drawing = samples.drawing_by(lands)
            for ring in itertools.product(range(len(drawing)), repeat=3):
                if not is_ring(lands, ring):
                    self.refused(drawing, arrows, ring)

    def test_places_that_are_not_tied_and_a_place_twice(self):
        for ring in ((0, 1, 4), (1, 4, 0), (4, 0, 1), (4, 3, 1), (0, 0, 1), (0, 1, 0), (1, 0, 0), (3, 3, 3)):
            self.refused(EXAMPLE, EXAMPLE_ARROWS, ring)

    def test_numbers_that_are_no_places(self):
        for strange in (*NO_PLACES, 5, -5, -3):
            for ring in ((0, 1, strange), (strange, 0, 1), (1, strange, 0), (strange,) * 3, (strange, 3, strange)):
                self.refused(EXAMPLE, EXAMPLE_ARROWS, ring)

    def test_numbers_that_would_be_places_counted_from_the_end(self):
        for ring in ((0, 1, -2), (-5, 1, 3), (0, -4, 3), (-5, -4, -2)):
            self.refused(EXAMPLE, EXAMPLE_ARROWS, ring)


class RingsOfArrows(unittest.TestCase):
    def test_without_any(self):
        self.assertEqual(rings(BARE, ()), [])
        self.assertEqual(rings(ONE_INNER, ONE_INNER_ARROWS), [])
        self.assertEqual(rings(EXAMPLE, EXAMPLE_ARROWS), [])

    def test_one_ring(self):
        drawing = samples.drawing_by(samples.RINGED)
        told = [rings(drawing, one) for one in samples.all_arrows_by_lands(samples.RINGED)]
        self.assertEqual(told, [[(3, 4, 5)], [(3, 5, 4)]])

    def test_two_rings_are_told_rising(self):
        for lands in (samples.NESTED, samples.BESIDE):
            drawing = samples.drawing_by(lands)
            told = [rings(drawing, one) for one in samples.all_arrows_by_lands(lands)]
            asked = [[one, other] for one in ((3, 4, 5), (3, 5, 4)) for other in ((6, 7, 8), (6, 8, 7))]
            self.assertEqual(sorted(told), asked)

    def test_all_samples(self):
        several = 0
        for lands, one in samples.with_arrows():
            told = rings(samples.drawing_by(lands), one)
            self.assertEqual(told, samples.model_rings(lands, one))
            self.assertEqual(told, sorted(told))
            self.assertEqual([ring for ring in told if ring[0] != min(ring)], [])
            several += len(told) > 2
        self.assertGreater(several, 5)


class Turned(unittest.TestCase):
    def test_one_ring(self):
        drawing = samples.drawing_by(samples.RINGED)
        one, other = samples.all_arrows_by_lands(samples.RINGED)
        for ring in each_beginning((3, 4, 5)):
            self.assertEqual(turned(drawing, one, ring), other)
            self.assertRaises(NoRing, turned, drawing, other, ring)
        for ring in each_beginning((3, 5, 4)):
            self.assertEqual(turned(drawing, other, ring), one)
            self.assertRaises(NoRing, turned, drawing, one, ring)

    def test_each_ring_of_arrows_of_all_samples(self):
        for lands, one in samples.with_arrows():
            drawing = samples.drawing_by(lands)
            for a, b, c in samples.model_rings(lands, one):
                for ring in each_beginning((a, b, c)):
                    told = turned(drawing, one, ring)
                    self.assertEqual(told, samples.model_turned(one, ring))
                    self.assertEqual(told, tuple(sorted(told)))
                    self.assertIsNone(arrow_fault(drawing, list(told)))
                    self.assertEqual(len(set(told) - set(one)), 3)
                    self.assertEqual(turned(drawing, told, ring[::-1]), one)

    def test_what_does_not_go_round_is_refused(self):
        for lands, one in samples.with_arrows():
            drawing = samples.drawing_by(lands)
            going = samples.model_rings(lands, one)
            for ring in samples.all_rings(lands):
                if ring not in going:
                    for begun in each_beginning(ring):
                        self.assertRaises(NoRing, turned, drawing, one, begun)

    def test_rings_with_outer_ties_are_refused(self):
        for lands, one in samples.with_arrows():
            drawing = samples.drawing_by(lands)
            for ring in ((0, 1, 2), (0, 2, 1)):
                self.assertRaises(NoRing, turned, drawing, one, ring)


if __name__ == "__main__":
    unittest.main()
