"""The three numbers of each place, points, and the side of three points [3, 4, 19, 20]."""

import inspect
import itertools
import random
import unittest

from tests import samples
from tests.samples import BARE, EXAMPLE, EXAMPLE_OUTS, ONE_INNER, ONE_INNER_OUTS
from threetrees import numbers as module
from threetrees.drawings import inner_lands
from threetrees.numbers import numbers, points, side_of

EXAMPLE_NUMBERS = ((5, 0, 0), (0, 5, 0), (0, 0, 5), (1, 3, 1), (2, 1, 2))


def model_numbers(lands, outs):
    whole = len(lands) - 1
    corners = ((whole, 0, 0), (0, whole, 0), (0, 0, whole))
    inner = [tuple(len(samples.model_part(lands, outs, 3 + k, i)) for i in range(3)) for k in range(len(outs))]
    return (*corners, *inner)


def model_side(a, b, c):
    """The sign of twice the area, reckoned from the three points alike."""
    area = a[0] * (b[1] - c[1]) + b[0] * (c[1] - a[1]) + c[0] * (a[1] - b[1])
    return (area > 0) - (area < 0)


def meet(a, b, c, d):
    """Whether the straight ties from a to b and from c to d have a point in common."""
    apart = [max(a[k], b[k]) < min(c[k], d[k]) or max(c[k], d[k]) < min(a[k], b[k]) for k in (0, 1)]
    across = model_side(a, b, c) * model_side(a, b, d) <= 0 and model_side(c, d, a) * model_side(c, d, b) <= 0
    return across and not any(apart)


class Interface(unittest.TestCase):
    def test_names_and_arguments(self):
        arguments = {"numbers": ["drawing", "outs"], "points": ["drawing", "outs"], "side_of": ["a", "b", "c"]}
        for name, names in arguments.items():
            self.assertEqual(list(inspect.signature(getattr(module, name)).parameters), names)

    def test_kinds(self):
        told = numbers(EXAMPLE, EXAMPLE_OUTS)
        self.assertEqual([type(told), *map(type, told)], [tuple] * 6)
        self.assertEqual({type(number) for triple in told for number in triple}, {int})
        told = points(EXAMPLE, EXAMPLE_OUTS)
        self.assertEqual([type(told), *map(type, told)], [list] + [tuple] * 5)
        self.assertIs(type(side_of((0, 0), (1, 0), (0, 1))), int)


class Numbers(unittest.TestCase):
    def test_example(self):
        self.assertEqual(numbers(EXAMPLE, EXAMPLE_OUTS), EXAMPLE_NUMBERS)
        self.assertEqual(points(EXAMPLE, EXAMPLE_OUTS), [(0, 0), (5, 0), (0, 5), (3, 1), (1, 2)])

    def test_without_inner_places(self):
        self.assertEqual(numbers(BARE, ()), ((1, 0, 0), (0, 1, 0), (0, 0, 1)))
        self.assertEqual(points(BARE, ()), [(0, 0), (1, 0), (0, 1)])

    def test_one_inner_place(self):
        self.assertEqual(numbers(ONE_INNER, ONE_INNER_OUTS), ((3, 0, 0), (0, 3, 0), (0, 0, 3), (1, 1, 1)))
        self.assertEqual(points(ONE_INNER, ONE_INNER_OUTS), [(0, 0), (3, 0), (0, 3), (1, 1)])

    def test_a_ring_that_goes_round_either_way(self):
        drawing = samples.drawing_by(samples.RINGED)
        one, other = ((0, 1, 4), (5, 1, 2), (0, 3, 2)), ((0, 1, 5), (3, 1, 2), (0, 4, 2))
        self.assertEqual(numbers(drawing, one)[3:], ((2, 4, 1), (1, 2, 4), (4, 1, 2)))
        self.assertEqual(numbers(drawing, other)[3:], ((4, 2, 1), (1, 4, 2), (2, 1, 4)))

    def test_all_samples(self):
        for drawing, lands, outs in samples.with_outs():
            told = numbers(drawing, outs)
            self.assertEqual(told, model_numbers(lands, outs))
            self.assertEqual(points(drawing, outs), [(y, z) for x, y, z in told])
            self.assertEqual({sum(triple) for triple in told}, {2 * len(drawing) - 5})

    def test_of_each_third_place_one_number_is_greater_than_those_of_both_ends_of_a_tie(self):
        for drawing, lands, outs in samples.with_outs():
            told = numbers(drawing, outs)
            for p, q in samples.ties_of(lands):
                for r in range(len(drawing)):
                    if r not in (p, q):
                        self.assertTrue(any(told[r][i] > max(told[p][i], told[q][i]) for i in range(3)))


class Sides(unittest.TestCase):
    def test_left_right_and_straight_on(self):
        self.assertEqual(side_of((0, 0), (1, 0), (0, 1)), 1)
        self.assertEqual(side_of((0, 0), (0, 1), (1, 0)), -1)
        self.assertEqual(side_of((0, 0), (1, 1), (2, 2)), 0)
        self.assertEqual(side_of((0, 0), (2, 2), (1, 1)), 0)
        self.assertEqual(side_of((5, 5), (3, 5), (4, 4)), 1)
        self.assertEqual(side_of((-3, -7), (-3, 7), (-4, 0)), 1)
        self.assertEqual(side_of((-3, -7), (-3, 7), (-2, 0)), -1)

    def test_two_that_are_the_same(self):
        for a, b in itertools.product([(0, 0), (3, -4), (10 ** 59, -(10 ** 59))], repeat=2):
            for three in ((a, a, b), (a, b, a), (b, a, a)):
                self.assertEqual(side_of(*three), 0)

    def test_all_small_points(self):
        around = list(itertools.product((-2, 0, 1, 2), repeat=2))
        for a, b, c in itertools.product(around, repeat=3):
            self.assertEqual(side_of(a, b, c), model_side(a, b, c))

    def test_numbers_of_sixty_figures(self):
        great = 10 ** 60 - 1
        self.assertEqual(side_of((0, 0), (great, great - 1), (great - 1, great - 2)), -1)
        self.assertEqual(side_of((0, 0), (great - 1, great - 2), (great, great - 1)), 1)
        self.assertEqual(side_of((-great, -great), (0, 0), (great, great)), 0)
        self.assertEqual(side_of((-great, -great), (0, 1), (great, great)), -1)
        self.assertEqual(side_of((-great, -great), (1, 0), (great, great)), 1)
        dice = random.Random(20)
        for again in range(2000):
            a, b = [(dice.randrange(-great, great), dice.randrange(-great, great)) for end in range(2)]
            c = dice.choice([a, b, (a[0] + dice.randrange(-1, 2), a[1] + dice.randrange(-1, 2)), (b[1], a[0])])
            for three in itertools.permutations((a, b, c)):
                self.assertEqual(side_of(*three), model_side(*three))

    def test_three_in_one_line_far_off(self):
        step = (10 ** 58 + 7, -(10 ** 57) - 3)
        line = [(5 + k * step[0], 9 + k * step[1]) for k in range(-3, 4)]
        for a, b, c in itertools.permutations(line, 3):
            self.assertEqual(side_of(a, b, c), 0)
            self.assertEqual(abs(side_of(a, b, (c[0] + 1, c[1]))), 1)

    def test_the_sides_of_each_inner_land_are_1(self):
        for drawing, lands, outs in samples.with_outs():
            at = points(drawing, outs)
            sides = [side_of(at[a], at[b], at[c]) for a, b, c in inner_lands(drawing)]
            self.assertEqual(sides, [1] * (2 * len(drawing) - 5))

    def test_no_two_ties_meet_but_at_places(self):
        for drawing, lands, outs in samples.with_outs()[::3]:
            at = points(drawing, outs)
            for (p, q), (r, s) in itertools.combinations(samples.ties_of(lands), 2):
                if not {p, q} & {r, s}:
                    self.assertFalse(meet(at[p], at[q], at[r], at[s]))


if __name__ == "__main__":
    unittest.main()
