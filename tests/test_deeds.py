"""Deeds and their backs [10, 11]."""

import inspect
import itertools
import unittest

from tests import samples
from tests.samples import BARE, EXAMPLE, NO_PLACES, ONE_INNER
from threetrees import deeds
from threetrees.deeds import Deed, Flip, Put, Take, deed_of
from threetrees.drawings import checked
from threetrees.errors import NoLand, NoPlace, NoTie, Tied, TooMany, TreesError
from threetrees.texts import drawing_read, drawing_text

CLASSES = {"put": Put, "take": Take, "flip": Flip}


def outcome(told, drawing):
    """What the deed makes, or its refusal's class and value."""
    return outcome_of(deed_of(told).done, drawing)


def outcome_of(ask, drawing):
    try:
        return ask(drawing)
    except TreesError as refusal:
        return (type(refusal), getattr(refusal, "pair", None))


def model_outcome(told, by_lands):
    """The same as the model has it, told by lands."""
    n = 1 + max(max(land) for land in by_lands)
    thirds = samples.third_corners(by_lands)
    if told[0] == "put":
        if n >= 10:
            return (TooMany, None)
        if samples.begun(told[1:]) not in samples.inner_of(by_lands):
            return (NoLand, None)
        return samples.drawing_by(samples.lands_put(by_lands, told[1:]))
    if told[0] == "take":
        p = told[1]
        around = [land for land in by_lands if p in land]
        if p < 3 or p != n - 1 or len(around) != 3:
            return (NoPlace, None)
        ways = {pair[0]: pair[1] for pair in thirds if thirds[pair] == p}
        a = min(ways)
        return samples.drawing_by(samples.replaced(by_lands, around, [(a, ways[a], ways[ways[a]])]))
    p, q = told[1:]
    if (p, q) not in thirds or max(p, q) < 3:
        return (NoTie, None)
    flipped = samples.lands_flipped(by_lands, p, q)
    if flipped is None:
        return (Tied, (thirds[p, q], thirds[q, p]))
    return samples.drawing_by(flipped)


def every_deed(numbers):
    for told in itertools.product(("put",), numbers, numbers, numbers):
        yield told
    for told in itertools.product(("flip",), numbers, numbers):
        yield told
    for p in numbers:
        yield ("take", p)


class Made(unittest.TestCase):
    def test_arguments(self):
        arguments = {"Put": ["a", "b", "c"], "Take": ["p"], "Flip": ["p", "q"], "deed_of": ["told"]}
        for name, names in arguments.items():
            self.assertEqual(list(inspect.signature(getattr(deeds, name)).parameters), names)

    def test_classes(self):
        for made in CLASSES.values():
            self.assertEqual(made.__bases__, (Deed,))

    def test_told(self):
        self.assertEqual(Put(0, 1, 2).told(), ("put", 0, 1, 2))
        self.assertEqual(Put(2, 0, 1).told(), ("put", 2, 0, 1))
        self.assertEqual(Take(7).told(), ("take", 7))
        self.assertEqual(Flip(4, 0).told(), ("flip", 4, 0))
        self.assertEqual(Flip(0, 4).told(), ("flip", 0, 4))

    def test_told_of_numbers_that_are_no_places(self):
        for p in NO_PLACES:
            self.assertEqual(Put(p, -p, 5).told(), ("put", p, -p, 5))
            self.assertEqual(Take(p).told(), ("take", p))
            self.assertEqual(Flip(p, p).told(), ("flip", p, p))

    def test_deed_of(self):
        for told in every_deed((-1, 0, 3, 10 ** 59)):
            deed = deed_of(told)
            self.assertIs(type(deed), CLASSES[told[0]])
            self.assertIsInstance(deed, Deed)
            self.assertEqual(deed.told(), told)
            self.assertIs(type(deed.told()), tuple)

    def test_a_deed_is_told_alike_behind_its_being_done(self):
        for deed, drawing in ((Put(1, 2, 0), BARE), (Take(3), ONE_INNER), (Flip(3, 0), EXAMPLE)):
            told, made = deed.told(), deed.done(drawing)
            deed.back(drawing)
            self.assertEqual(deed.told(), told)
            self.assertEqual(deed.done(drawing), made)

    def test_one_deed_can_be_done_in_several_drawings(self):
        deed = Put(0, 1, 3)
        self.assertEqual(drawing_text(deed.done(ONE_INNER)), "1432 0234 031 0412 013")
        self.assertEqual(drawing_text(deed.done(EXAMPLE)), "15342 0235 0431 05124 032 013")
        self.assertEqual(drawing_text(deed.done(ONE_INNER)), "1432 0234 031 0412 013")


class Puts(unittest.TestCase):
    def test_into_the_first_land(self):
        for told in ((0, 1, 2), (1, 2, 0), (2, 0, 1)):
            self.assertEqual(Put(*told).done(BARE), ONE_INNER)

    def test_into_the_land_that_makes_the_example(self):
        for told in ((0, 3, 2), (3, 2, 0), (2, 0, 3)):
            self.assertEqual(Put(*told).done(ONE_INNER), EXAMPLE)

    def test_the_outer_land_is_none(self):
        for drawing in (BARE, ONE_INNER, EXAMPLE):
            for told in ((0, 2, 1), (2, 1, 0), (1, 0, 2)):
                self.assertRaises(NoLand, Put(*told).done, drawing)

    def test_a_land_told_the_other_way_round_is_none(self):
        for told in ((3, 1, 0), (1, 0, 3), (0, 3, 1), (4, 3, 0), (2, 3, 4)):
            self.assertRaises(NoLand, Put(*told).done, EXAMPLE)

    def test_three_tied_places_without_a_land(self):
        self.assertRaises(NoLand, Put(0, 1, 2).done, ONE_INNER)
        self.assertRaises(NoLand, Put(0, 3, 2).done, EXAMPLE)

    def test_places_told_twice_and_numbers_that_are_no_places(self):
        for told in ((0, 0, 1), (0, 1, 1), (1, 1, 1), (0, 1, -2), (-5, 1, 3), (0, 1, 5), (0, -4, -2)):
            self.assertRaises(NoLand, Put(*told).done, EXAMPLE)
        for p in NO_PLACES:
            for told in ((p, 1, 3), (0, p, 3), (0, 1, p), (p, p, p)):
                self.assertRaises(NoLand, Put(*told).done, EXAMPLE)

    def test_too_many_comes_ahead_of_no_land(self):
        for by_lands in samples.some_by_lands(10):
            drawing = samples.drawing_by(by_lands)
            for told in (*by_lands, (0, 2, 1), (1, 1, 1), (-1, 10, 10 ** 59)):
                self.assertRaises(TooMany, Put(*told).done, drawing)
                self.assertRaises(TooMany, Put(*told).back, drawing)

    def test_the_tenth_place_can_be_put(self):
        for by_lands in samples.some_by_lands(9):
            land = samples.inner_of(by_lands)[0]
            made = Put(*land).done(samples.drawing_by(by_lands))
            self.assertEqual(len(made), 10)
            self.assertEqual(made[9], land)

    def test_ten_places_one_behind_the_other(self):
        drawing = BARE
        for new in range(3, 10):
            drawing = Put(0, 1, new - 1).done(drawing)
        text = "198765432 023456789 031 0412 0513 0614 0715 0816 0917 018"
        self.assertEqual(drawing_text(drawing), text)


class Takes(unittest.TestCase):
    def test_the_last_place(self):
        self.assertEqual(Take(3).done(ONE_INNER), BARE)
        self.assertEqual(Take(4).done(EXAMPLE), ONE_INNER)

    def test_not_the_last_one(self):
        # 3 has but three places in its turn, and yet is not the last one.
        drawing = drawing_read("1432 024 0341 042 0123")
        self.assertEqual(len(drawing[3]), 3)
        self.assertRaises(NoPlace, Take(3).done, drawing)

    def test_not_a_corner(self):
        for p in range(3):
            for drawing in (BARE, ONE_INNER, EXAMPLE):
                self.assertRaises(NoPlace, Take(p).done, drawing)

    def test_not_where_more_than_three_are_tied(self):
        drawing = drawing_read("1432 024 0341 042 0123")
        self.assertEqual(len(drawing[4]), 4)
        self.assertRaises(NoPlace, Take(4).done, drawing)

    def test_numbers_that_are_no_places(self):
        for drawing in (BARE, ONE_INNER, EXAMPLE):
            for p in (*NO_PLACES, len(drawing), -len(drawing), 1 - len(drawing)):
                self.assertRaises(NoPlace, Take(p).done, drawing)
                self.assertRaises(NoPlace, Take(p).back, drawing)


class Flips(unittest.TestCase):
    def test_the_example(self):
        # The tie of 0 and 3 goes, one of 4 and 1 comes.
        made = drawing_read("142 0234 0431 124 0132")
        self.assertEqual(Flip(0, 3).done(EXAMPLE), made)
        self.assertEqual(Flip(3, 0).done(EXAMPLE), made)

    def test_turns_are_begun_anew(self):
        made = Flip(0, 3).done(EXAMPLE)
        self.assertEqual([turn[0] for turn in made], [min(turn) for turn in made])
        self.assertEqual(made[3], (1, 2, 4))

    def test_outer_ties(self):
        # The third corners of an outer tie are tied here, and yet it is refused as no inner tie.
        for drawing in (BARE, ONE_INNER, EXAMPLE):
            for p, q in itertools.permutations(range(3), 2):
                self.assertRaises(NoTie, Flip(p, q).done, drawing)
                self.assertRaises(NoTie, Flip(p, q).back, drawing)

    def test_places_that_are_not_tied(self):
        for p, q in ((1, 4), (4, 1), (0, 0), (3, 3), (4, 4)):
            self.assertRaises(NoTie, Flip(p, q).done, EXAMPLE)

    def test_numbers_that_are_no_places(self):
        for strange in (*NO_PLACES, 5, -5, -4, -3):
            for p in range(5):
                self.assertRaises(NoTie, Flip(p, strange).done, EXAMPLE)
                self.assertRaises(NoTie, Flip(strange, p).done, EXAMPLE)
            self.assertRaises(NoTie, Flip(strange, strange).done, EXAMPLE)

    def test_tied_with_its_pair(self):
        asked = {(0, 4): (2, 3), (4, 0): (3, 2), (1, 3): (0, 2), (3, 1): (2, 0), (3, 4): (0, 2), (4, 3): (2, 0)}
        for (p, q), pair in asked.items():
            for ask in (Flip(p, q).done, Flip(p, q).back):
                with self.subTest(p=p, q=q), self.assertRaises(Tied) as caught:
                    ask(EXAMPLE)
                self.assertEqual(caught.exception.pair, pair)
                self.assertIs(type(caught.exception.pair), tuple)


class EveryDeed(unittest.TestCase):
    def deeds_agree(self, by_lands, numbers):
        drawing = samples.drawing_by(by_lands)
        for told in every_deed(numbers):
            self.assertEqual(outcome(told, drawing), model_outcome(told, by_lands), (drawing, told))

    def test_all_deeds_in_all_drawings_up_to_five_places(self):
        for n in (3, 4, 5):
            for by_lands in samples.all_by_lands(n):
                self.deeds_agree(by_lands, range(-2, n + 2))

    def test_all_deeds_in_some_drawings_of_six_places(self):
        for by_lands in samples.all_by_lands(6)[::8]:
            self.deeds_agree(by_lands, range(-1, 7))

    def test_deeds_that_can_be_done_in_greater_drawings(self):
        for n in range(6, 11):
            for by_lands in samples.some_by_lands(n):
                drawing = samples.drawing_by(by_lands)
                told = [("put", *samples.turned_on(land, n % 3)) for land in sorted(by_lands)]
                told += [("flip", *pair) for pair in itertools.permutations(range(n), 2)]
                told += [("take", p) for p in range(-1, n + 1)]
                for deed in told:
                    self.assertEqual(outcome(deed, drawing), model_outcome(deed, by_lands), (drawing, deed))

    def test_what_is_made_is_a_drawing(self):
        for n in range(3, 11):
            for by_lands in samples.some_by_lands(n)[::2]:
                drawing = samples.drawing_by(by_lands)
                told = [("put", *land) for land in by_lands] + [("take", n - 1)]
                told += [("flip", *pair) for pair in samples.inner_ties_of(by_lands)]
                for made in [outcome(deed, drawing) for deed in told]:
                    if made[0] not in (NoLand, NoPlace, Tied, TooMany):
                        self.assertEqual(checked(list(made)), made)
                        self.assertEqual({type(turn) for turn in made}, {tuple})


class Backs(unittest.TestCase):
    def leads_back(self, told, drawing):
        deed = deed_of(told)
        back = deed.back(drawing)
        self.assertIsInstance(back, Deed)
        asked = {"put": Take, "take": Put, "flip": Flip}[told[0]]
        self.assertIs(type(back), asked)
        self.assertEqual(back.done(deed.done(drawing)), drawing, (drawing, told))
        self.assertEqual(deed_of(back.told()).done(deed.done(drawing)), drawing)

    def agrees(self, told, drawing):
        made = outcome(told, drawing)
        if isinstance(made[0], tuple):
            self.leads_back(told, drawing)
        else:
            self.assertEqual(outcome_of(deed_of(told).back, drawing), made, (drawing, told))

    def test_of_a_put(self):
        self.assertEqual(Put(0, 1, 2).back(BARE).told(), ("take", 3))
        self.assertEqual(Put(2, 0, 3).back(ONE_INNER).told(), ("take", 4))
        self.leads_back(("put", 2, 0, 3), ONE_INNER)

    def test_of_a_take(self):
        told = Take(4).back(EXAMPLE).told()
        self.assertIn(told, [("put", 0, 3, 2), ("put", 3, 2, 0), ("put", 2, 0, 3)])
        self.leads_back(("take", 4), EXAMPLE)
        self.leads_back(("take", 3), ONE_INNER)

    def test_of_a_flip(self):
        for p, q in ((0, 3), (3, 0)):
            self.assertIn(Flip(p, q).back(EXAMPLE).told(), [("flip", 1, 4), ("flip", 4, 1)])
            self.leads_back(("flip", p, q), EXAMPLE)

    def test_all_deeds_in_all_drawings_up_to_five_places(self):
        for n in (3, 4, 5):
            for by_lands in samples.all_by_lands(n):
                drawing = samples.drawing_by(by_lands)
                for told in every_deed(range(-2, n + 2)):
                    self.agrees(told, drawing)

    def test_deeds_in_greater_drawings(self):
        for n in range(6, 11):
            for by_lands in samples.some_by_lands(n):
                drawing = samples.drawing_by(by_lands)
                for land in by_lands:
                    self.agrees(("put", *samples.turned_on(land, n % 3)), drawing)
                for p, q in itertools.permutations(range(n), 2):
                    self.agrees(("flip", p, q), drawing)
                for p in range(-1, n + 1):
                    self.agrees(("take", p), drawing)


if __name__ == "__main__":
    unittest.main()
