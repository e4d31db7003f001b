"""The places taken off one by one [4, 13]."""

import inspect
import itertools
import unittest

from tests import samples
from tests.samples import BARE, EXAMPLE, EXAMPLE_ARROWS, ONE_INNER, ONE_INNER_ARROWS
from threetrees import orders
from threetrees.arrows import arrow_fault
from threetrees.orders import taken_off


def rim_of(lands, left):
    """The rim, found as the border of the lands that have only places that are left: from 0 on, as far as 1."""
    ways = [way for land in lands - {(0, 2, 1)} if left.issuperset(land) for way in samples.ways_round(land)]
    border = dict((q, p) for p, q in ways if (q, p) not in ways)
    rim = [0]
    while rim[-1] != 1:
        rim.append(border[rim[-1]])
    return rim


def model_taken_off(lands):
    tied = samples.third_corners(lands)
    left = {p for land in lands for p in land}
    order, arrows = [], set()
    while len(left) > 2:
        rim = rim_of(lands, left)
        free = [p for p in rim[1:-1] if sum((p, q) in tied for q in rim) == 2]
        place = min(free)
        left.remove(place)
        arrows.update((q, place) for q in left.difference(rim) if (place, q) in tied)
        if place > 2:
            order.append(place)
            arrows.update((place, q) for q in rim if (place, q) in tied)
    return (order, tuple(sorted(arrows)))


class Interface(unittest.TestCase):
    def test_names_and_arguments(self):
        self.assertEqual(list(inspect.signature(orders.taken_off).parameters), ["drawing"])

    def test_kinds(self):
        told = taken_off(EXAMPLE)
        self.assertEqual([type(told), type(told[0]), type(told[1])], [tuple, list, tuple])
        self.assertEqual({type(pair) for pair in told[1]}, {tuple})


class TakenOff(unittest.TestCase):
    def test_example(self):
        self.assertEqual(taken_off(EXAMPLE), ([4, 3], EXAMPLE_ARROWS))

    def test_without_inner_places(self):
        self.assertEqual(taken_off(BARE), ([], ()))

    def test_one_inner_place(self):
        self.assertEqual(taken_off(ONE_INNER), ([3], ONE_INNER_ARROWS))

    def test_the_least_one_is_taken_off_wherever_it_stands_in_the_rim(self):
        # The rim comes to be 0, 5, 4, 1, and both 5 and 4 can be taken off; 3, which comes then, only behind both.
        orders_by_names = {(3, 4, 5): [4, 5, 3], (3, 5, 4): [4, 5, 3], (5, 3, 4): [3, 4, 5], (4, 3, 5): [3, 5, 4]}
        for inner, order in orders_by_names.items():
            drawing = samples.drawing_by(samples.renamed(samples.RINGED, inner))
            self.assertEqual(taken_off(drawing)[0], order)

    def test_all_drawings_up_to_six_places(self):
        for n in (3, 4, 5, 6):
            for lands in samples.all_by_lands(n):
                self.assertEqual(taken_off(samples.drawing_by(lands)), model_taken_off(lands), sorted(lands))

    def test_drawings_up_to_ten_places(self):
        for lands in samples.drawings_by_lands():
            drawing = samples.drawing_by(lands)
            self.assertEqual(taken_off(drawing), model_taken_off(lands), drawing)

    def test_inner_places_numbered_in_any_way(self):
        for n in range(7, 11):
            shapes = samples.some_by_lands(n)[::9] + samples.rich_by_lands(n)[:1]
            for lands, k in itertools.product(shapes, range(12)):
                mixed = samples.mixed(lands, k)
                self.assertEqual(taken_off(samples.drawing_by(mixed)), model_taken_off(mixed))

    def test_each_way_to_number_six_inner_places(self):
        lands = samples.NESTED
        for inner in itertools.islice(itertools.permutations(range(3, 9)), 0, 720, 7):
            called = samples.renamed(lands, inner)
            self.assertEqual(taken_off(samples.drawing_by(called)), model_taken_off(called))

    def test_what_comes_are_arrows_and_all_inner_places_are_taken_off(self):
        few = [lands for n in range(3, 11) for lands in samples.some_by_lands(n)]
        for lands in (*few, *samples.drawings_by_lands()):
            drawing = samples.drawing_by(lands)
            order, arrows = taken_off(drawing)
            self.assertEqual(sorted(order), list(range(3, len(drawing))))
            self.assertIsNone(arrow_fault(drawing, list(arrows)))
            self.assertEqual(arrows, tuple(sorted(arrows)))
            self.assertIn(arrows, samples.all_arrows_by_lands(lands))


if __name__ == "__main__":
    unittest.main()
