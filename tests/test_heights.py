"""Heights, below and above, the lowest and the highest, the greatest below and the least above [3, 25, 26, 27]."""

import functools
import inspect
import itertools
import unittest

from tests import samples
from tests.samples import BARE, EXAMPLE, EXAMPLE_ARROWS, ONE_INNER, ONE_INNER_ARROWS
from threetrees import heights as module
from threetrees.arrows import arrow_fault
from threetrees.heights import greatest_below, heights, highest, is_below, least_above, lowest
from threetrees.rings import is_left, rings


@functools.lru_cache(maxsize=None)
def model_heights(lands, one, other):
    """From land to land, as the document tells it, as long as one is not known."""
    thirds = samples.third_corners(lands)
    at_left = {(p, q): samples.begun((p, q, third)) for (p, q), third in thirds.items()}
    known = {(0, 2, 1): 0}
    while len(known) < len(lands):
        for (p, q), land in at_left.items():
            if land in known:
                more = -1 if (p, q) in set(one) - set(other) else 1 if (q, p) in set(one) - set(other) else 0
                known.setdefault(at_left[q, p], known[land] + more)
    return tuple(known[land] for land in samples.inner_of(lands))


def model_is_below(lands, one, other):
    return all(height >= 0 for height in model_heights(lands, other, one))


def model_end(lands, is_end):
    found = [one for one in samples.all_arrows_by_lands(lands) if is_end(one)]
    if len(found) != 1:
        raise AssertionError("the model is broken")
    return found[0]


@functools.lru_cache(maxsize=None)
def model_lowest(lands):
    others = samples.all_arrows_by_lands(lands)
    return model_end(lands, lambda one: all(model_is_below(lands, one, other) for other in others))


def model_highest(lands):
    others = samples.all_arrows_by_lands(lands)
    return model_end(lands, lambda one: all(model_is_below(lands, other, one) for other in others))


def model_greatest_below(lands, one, other):
    below = [each for each in samples.all_arrows_by_lands(lands)
             if model_is_below(lands, each, one) and model_is_below(lands, each, other)]
    return model_end(lands, lambda end: end in below and all(model_is_below(lands, each, end) for each in below))


def model_least_above(lands, one, other):
    above = [each for each in samples.all_arrows_by_lands(lands)
             if model_is_below(lands, one, each) and model_is_below(lands, other, each)]
    return model_end(lands, lambda end: end in above and all(model_is_below(lands, end, each) for each in above))


class Interface(unittest.TestCase):
    def test_names_and_arguments(self):
        for name in ("heights", "is_below", "greatest_below", "least_above"):
            self.assertEqual(list(inspect.signature(getattr(module, name)).parameters), ["drawing", "one", "other"])
        for name in ("lowest", "highest"):
            self.assertEqual(list(inspect.signature(getattr(module, name)).parameters), ["drawing"])

    def test_kinds(self):
        drawing = samples.drawing_by(samples.RINGED)
        one, other = samples.all_arrows_by_lands(samples.RINGED)
        told = heights(drawing, one, other)
        self.assertIs(type(told), tuple)
        self.assertEqual({type(height) for height in told}, {int})
        for ask in (greatest_below, least_above):
            self.assertIs(type(ask(drawing, one, other)), tuple)
            self.assertEqual({type(pair) for pair in ask(drawing, one, other)}, {tuple})
        self.assertEqual([type(lowest(drawing)), type(highest(drawing))], [tuple, tuple])


class Heights(unittest.TestCase):
    def test_to_themselves(self):
        self.assertEqual(heights(BARE, (), ()), (0,))
        self.assertEqual(heights(ONE_INNER, ONE_INNER_ARROWS, ONE_INNER_ARROWS), (0, 0, 0))
        self.assertEqual(heights(EXAMPLE, EXAMPLE_ARROWS, EXAMPLE_ARROWS), (0, 0, 0, 0, 0))
        for lands, one in samples.with_arrows():
            self.assertEqual(heights(samples.drawing_by(lands), one, one), (0,) * (len(lands) - 1))

    def test_one_ring(self):
        # The inner lands, rising: (0, 1, 3), (0, 3, 5), (0, 5, 2), (1, 2, 4), (1, 4, 3), (2, 5, 4), (3, 4, 5).
        drawing = samples.drawing_by(samples.RINGED)
        left, right = samples.all_arrows_by_lands(samples.RINGED)
        self.assertIn((3, 4), left)
        self.assertEqual(heights(drawing, left, right), (0, 0, 0, 0, 0, 0, 1))
        self.assertEqual(heights(drawing, right, left), (0, 0, 0, 0, 0, 0, -1))

    def test_the_order_is_the_rising_one_of_the_inner_lands(self):
        lands = samples.mixed(samples.NESTED, 5)
        drawing = samples.drawing_by(lands)
        for one in samples.all_arrows_by_lands(lands):
            for ring in samples.model_rings(lands, one):
                told = dict(zip(samples.inner_of(lands), heights(drawing, one, samples.model_turned(one, ring))))
                found = [land for land in told if told[land] != 0]
                self.assertEqual(found, samples.model_inside(lands, ring))

    def test_a_ring_turned(self):
        for lands, one in samples.with_arrows():
            drawing = samples.drawing_by(lands)
            for ring in samples.model_rings(lands, one):
                height = 1 if samples.model_is_left(lands, ring) else -1
                within = samples.model_inside(lands, ring)
                asked = tuple(height if land in within else 0 for land in samples.inner_of(lands))
                self.assertEqual(heights(drawing, one, samples.model_turned(one, ring)), asked)

    def test_all_two_arrows(self):
        found = set()
        for drawing, lands, one, other in samples.pairs_of_arrows():
            told = heights(drawing, one, other)
            self.assertEqual(told, model_heights(lands, one, other))
            self.assertEqual(len(told), 2 * len(drawing) - 5)
            found.update(told)
        self.assertLessEqual({-2, -1, 0, 1, 2}, found)

    def test_over_each_tie(self):
        for drawing, lands, one, other in samples.pairs_of_arrows():
            known = {(0, 2, 1): 0, **dict(zip(samples.inner_of(lands), heights(drawing, one, other)))}
            thirds = samples.third_corners(lands)
            for p, q in samples.ties_of(lands):
                left, right = samples.begun((p, q, thirds[p, q])), samples.begun((q, p, thirds[q, p]))
                if (p, q) in set(one) - set(other):
                    self.assertEqual(known[left], known[right] + 1)
                elif (q, p) in set(one) - set(other):
                    self.assertEqual(known[right], known[left] + 1)
                else:
                    self.assertEqual(known[left], known[right])


class Below(unittest.TestCase):
    def test_alike(self):
        self.assertIs(is_below(BARE, (), ()), True)
        self.assertIs(is_below(EXAMPLE, EXAMPLE_ARROWS, EXAMPLE_ARROWS), True)

    def test_one_ring(self):
        # The left ring is turned to a right one, and so one comes from above to below.
        drawing = samples.drawing_by(samples.RINGED)
        left, right = samples.all_arrows_by_lands(samples.RINGED)
        self.assertIs(is_below(drawing, right, left), True)
        self.assertIs(is_below(drawing, left, right), False)

    def test_neither(self):
        drawing = samples.drawing_by(samples.BESIDE)
        row = samples.all_arrows_by_lands(samples.BESIDE)
        mixed = [one for one in row if [is_left(drawing, ring) for ring in rings(drawing, one)].count(True) == 1]
        self.assertEqual(len(mixed), 2)
        for one, other in itertools.permutations(mixed):
            self.assertIs(is_below(drawing, one, other), False)

    def test_all_two_arrows(self):
        found = {}
        for drawing, lands, one, other in samples.pairs_of_arrows():
            told = is_below(drawing, one, other)
            self.assertIs(told, model_is_below(lands, one, other))
            kind = (told, is_below(drawing, other, one))
            found[kind] = found.get(kind, 0) + 1
        for kind in itertools.product((True, False), repeat=2):
            self.assertGreater(found[kind], 15)

    def test_below_where_left_rings_alone_do_not_lead(self):
        # The outer ring is a left one, the inner one a right one; below are those with both the other way round, and
        # yet the inner one would have to be turned to a left one.
        drawing = samples.drawing_by(samples.NESTED)
        row = samples.all_arrows_by_lands(samples.NESTED)
        by_rings = {tuple(rings(drawing, one)): one for one in row}
        upper = by_rings[(3, 4, 5), (6, 8, 7)]
        under = by_rings[(3, 5, 4), (6, 7, 8)]
        self.assertIs(is_below(drawing, under, upper), True)
        self.assertIs(is_below(drawing, upper, under), False)


class Ends(unittest.TestCase):
    def test_just_one_way(self):
        for drawing, arrows in ((BARE, ()), (ONE_INNER, ONE_INNER_ARROWS), (EXAMPLE, EXAMPLE_ARROWS)):
            self.assertEqual(lowest(drawing), arrows)
            self.assertEqual(highest(drawing), arrows)

    def test_one_ring(self):
        drawing = samples.drawing_by(samples.RINGED)
        left, right = samples.all_arrows_by_lands(samples.RINGED)
        self.assertEqual((lowest(drawing), highest(drawing)), (right, left))

    def test_all_samples(self):
        for lands in (*samples.all_by_lands(6), *samples.some_by_lands(10), *samples.drawings_by_lands()):
            drawing = samples.drawing_by(lands)
            self.assertEqual(lowest(drawing), model_lowest(lands))
            self.assertEqual(highest(drawing), model_highest(lands))

    def test_they_alone_have_no_left_ring_and_no_right_ring(self):
        for lands in samples.drawings_by_lands():
            drawing = samples.drawing_by(lands)
            low, high = lowest(drawing), highest(drawing)
            for one in samples.all_arrows_by_lands(lands):
                sides = [samples.model_is_left(lands, ring) for ring in samples.model_rings(lands, one)]
                self.assertEqual(True not in sides, one == low)
                self.assertEqual(False not in sides, one == high)
                self.assertIs(is_below(drawing, low, one), True)
                self.assertIs(is_below(drawing, one, high), True)


class Between(unittest.TestCase):
    def test_alike(self):
        for lands, one in samples.with_arrows():
            drawing = samples.drawing_by(lands)
            self.assertEqual(greatest_below(drawing, one, one), one)
            self.assertEqual(least_above(drawing, one, one), one)

    def test_of_such_as_lie_above_one_another(self):
        for drawing, lands, one, other in samples.pairs_of_arrows():
            if model_is_below(lands, one, other):
                self.assertEqual(greatest_below(drawing, one, other), one)
                self.assertEqual(greatest_below(drawing, other, one), one)
                self.assertEqual(least_above(drawing, one, other), other)
                self.assertEqual(least_above(drawing, other, one), other)

    def test_rings_beside_one_another(self):
        drawing = samples.drawing_by(samples.BESIDE)
        row = samples.all_arrows_by_lands(samples.BESIDE)
        mixed = [one for one in row if one not in (lowest(drawing), highest(drawing))]
        for one, other in itertools.permutations(mixed):
            self.assertEqual(greatest_below(drawing, one, other), lowest(drawing))
            self.assertEqual(least_above(drawing, one, other), highest(drawing))

    def test_of_such_as_do_not(self):
        tried = 0
        for drawing, lands, one, other in samples.pairs_of_arrows():
            if one < other and not model_is_below(lands, one, other) and not model_is_below(lands, other, one):
                below, above = greatest_below(drawing, one, other), least_above(drawing, one, other)
                self.assertEqual(below, model_greatest_below(lands, one, other))
                self.assertEqual(above, model_least_above(lands, one, other))
                self.assertEqual(greatest_below(drawing, other, one), below)
                self.assertEqual(least_above(drawing, other, one), above)
                tried += 1
        self.assertGreater(tried, 15)

    def test_heights_to_the_lowest_are_the_lesser_and_the_greater(self):
        for drawing, lands, one, other in samples.pairs_of_arrows():
            low = model_lowest(lands)
            to_low = list(zip(model_heights(lands, one, low), model_heights(lands, other, low)))
            below, above = greatest_below(drawing, one, other), least_above(drawing, one, other)
            self.assertIsNone(arrow_fault(drawing, list(below)))
            self.assertIsNone(arrow_fault(drawing, list(above)))
            self.assertEqual((below, above), (tuple(sorted(below)), tuple(sorted(above))))
            self.assertEqual(model_heights(lands, below, low), tuple(map(min, to_low)))
            self.assertEqual(model_heights(lands, above, low), tuple(map(max, to_low)))


if __name__ == "__main__":
    unittest.main()
