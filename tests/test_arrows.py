"""Arrows: their faults, and arrows by pairs in any order [4, 12]."""

import inspect
import itertools
import random
import unittest

from tests import samples
from tests.samples import BARE, EXAMPLE, EXAMPLE_ARROWS, NO_PLACES, ONE_INNER, ONE_INNER_ARROWS
from threetrees import arrows
from threetrees.arrows import arrow_fault, arrows_by
from threetrees.errors import NoArrows


def model_fault(lands, pairs):
    """The first fault, told word for word as in the document."""
    ties = {frozenset(tie) for tie in samples.inner_ties_of(lands)}
    told = [frozenset(pair) for pair in pairs]
    for k, tie in enumerate(told):
        if tie not in ties:
            return ("tie", k)
    for k, tie in enumerate(told):
        if told.index(tie) < k:
            return ("twice", k)
    for p in sorted({p for land in lands for p in land if p > 2}):
        if len([pair for pair in pairs if pair[0] == p]) != 3:
            return ("out", p)
    return None


def drawn():
    return [(samples.drawing_by(lands), lands, one) for lands, one in samples.with_arrows()]


class Interface(unittest.TestCase):
    def test_names_and_arguments(self):
        for name in ("arrow_fault", "arrows_by"):
            self.assertEqual(list(inspect.signature(getattr(arrows, name)).parameters), ["drawing", "pairs"])


class Samples(unittest.TestCase):
    def test_the_example_has_just_one_way(self):
        by_lands = [lands for lands in samples.all_by_lands(5) if samples.drawing_by(lands) == EXAMPLE]
        self.assertEqual(samples.all_arrows_by_lands(by_lands[0]), (EXAMPLE_ARROWS,))

    def test_there_are_as_many_arrows_as_are_known(self):
        # 1, 1, 3, 14, 84 .. drawings with arrows with 0, 1, 2, 3 inner places, each with all ways to number these.
        counts = [sum(len(samples.all_arrows_by_lands(lands)) for lands in samples.all_by_lands(n)) for n in (3, 4, 5, 6)]
        self.assertEqual(counts, [1, 1, 3 * 2, 14 * 6])

    def test_some_have_many_arrows(self):
        counts = {n: max(len(samples.all_arrows_by_lands(lands)) for lands in samples.rich_by_lands(n))
                  for n in (7, 8, 9, 10)}
        self.assertEqual(counts, {7: 3, 8: 5, 9: 10, 10: 20})


class Agreeing(unittest.TestCase):
    def agrees(self, drawing, lands, pairs):
        fault = model_fault(lands, pairs)
        self.assertEqual(arrow_fault(drawing, pairs), fault, (drawing, pairs))
        if fault is None:
            self.assertEqual(arrows_by(drawing, pairs), tuple(sorted(pairs)))
        else:
            with self.assertRaises(NoArrows) as caught:
                arrows_by(drawing, pairs)
            self.assertEqual(caught.exception.why, fault)

    def test_all_ways_to_set_each_tie_of_the_example(self):
        ties = [((p, q), (q, p)) for p, q in EXAMPLE_ARROWS]
        found = [pairs for pairs in itertools.product(*ties) if arrow_fault(EXAMPLE, list(pairs)) is None]
        self.assertEqual(found, [EXAMPLE_ARROWS])

    def test_all_ways_to_set_each_tie_of_others(self):
        for lands in samples.RINGS_BY_LANDS[:1] + samples.all_by_lands(6)[::9]:
            drawing = samples.drawing_by(lands)
            ties = [((p, q), (q, p)) for p, q in samples.inner_ties_of(lands)]
            found = [sorted(pairs) for pairs in itertools.product(*ties) if arrow_fault(drawing, list(pairs)) is None]
            self.assertEqual(sorted(map(tuple, found)), list(samples.all_arrows_by_lands(lands)))

    def test_pairs_left_out_turned_about_told_twice_and_put_in(self):
        for drawing, lands, one in drawn():
            n = len(drawing)
            pairs = list(one)
            for k in range(len(pairs)):
                p, q = pairs[k]
                self.agrees(drawing, lands, pairs[:k] + pairs[k + 1:])
                self.agrees(drawing, lands, pairs[:k] + [(q, p)] + pairs[k + 1:])
                at = (5 * k + n) % (len(pairs) + 1)
                for strange in ((p, q), (q, p), (0, 1), (2, 1), (p, p), (p, n), (-1, q), (p, q - n), (10 ** 59, p)):
                    self.agrees(drawing, lands, pairs[:at] + [strange] + pairs[at:])

    def test_several_faults_at_once(self):
        dice = random.Random(12)
        for drawing, lands, one in drawn():
            n = len(drawing)
            for again in range(6):
                pairs = list(one)
                for step in range(dice.randrange(5)):
                    k = dice.randrange(len(pairs) + 1)
                    near = pairs[k % len(pairs)] if pairs else (0, 1)
                    new = dice.choice([near, near[::-1], (dice.randrange(n), dice.randrange(n)), (n, 3), (3, -1)])
                    pairs[k:k + dice.randrange(2)] = [new][:dice.randrange(3)]
                dice.shuffle(pairs)
                self.agrees(drawing, lands, pairs)


class WithoutFault(unittest.TestCase):
    def test_example_in_each_order(self):
        for pairs in itertools.permutations(EXAMPLE_ARROWS):
            self.assertIsNone(arrow_fault(EXAMPLE, list(pairs)))
            self.assertEqual(arrows_by(EXAMPLE, list(pairs)), EXAMPLE_ARROWS)

    def test_without_inner_places(self):
        self.assertIsNone(arrow_fault(BARE, []))
        self.assertEqual(arrows_by(BARE, []), ())

    def test_all_samples_in_several_orders(self):
        for drawing, lands, one in drawn():
            for pairs in (list(one), list(one[::-1]), list(one[1::2] + one[::2]), sorted(one, key=lambda pair: pair[1])):
                self.assertIsNone(arrow_fault(drawing, pairs))
                self.assertEqual(arrows_by(drawing, pairs), one)

    def test_told_are_tuples_whether_lists_or_tuples_were_handed_in(self):
        for pairs in ([(3, 2), (3, 0), (3, 1)], [[3, 2], [3, 0], [3, 1]], [[3, 2], (3, 0), [3, 1]]):
            told = arrows_by(ONE_INNER, pairs)
            self.assertEqual(told, ONE_INNER_ARROWS)
            self.assertIs(type(told), tuple)
            self.assertEqual({type(pair) for pair in told}, {tuple})
            self.assertIsNone(arrow_fault(ONE_INNER, pairs))
            self.assertEqual(arrow_fault(ONE_INNER, pairs + [list(pairs[0])]), ("twice", 3))


class Faults(unittest.TestCase):
    def fault(self, drawing, pairs, word, at):
        with self.subTest(pairs=pairs):
            told = arrow_fault(drawing, pairs)
            self.assertEqual(told, (word, at))
            self.assertIs(type(told), tuple)
            with self.assertRaises(NoArrows) as caught:
                arrows_by(drawing, pairs)
            self.assertEqual(caught.exception.why, (word, at))

    def test_no_pairs_at_all(self):
        self.fault(ONE_INNER, [], "out", 3)
        self.fault(EXAMPLE, [], "out", 3)

    def test_numbers_that_are_no_places(self):
        for strange in (*NO_PLACES, 5, 6, -3, -4, -5):
            for k in range(7):
                for pair in ((strange, 3), (3, strange), (strange, strange), (strange, 0)):
                    self.fault(EXAMPLE, [*EXAMPLE_ARROWS[:k], pair, *EXAMPLE_ARROWS[k:]], "tie", k)
            self.fault(BARE, [(strange, 0)], "tie", 0)

    def test_numbers_that_would_be_places_counted_from_the_end(self):
        self.fault(EXAMPLE, [(-2, 0)], "tie", 0)
        self.fault(EXAMPLE, [(3, 0), (3, -4)], "tie", 1)

    def test_ties_of_corners(self):
        for pair in itertools.permutations(range(3), 2):
            self.fault(BARE, [pair], "tie", 0)
            for k in range(7):
                self.fault(EXAMPLE, [*EXAMPLE_ARROWS[:k], pair, *EXAMPLE_ARROWS[k:]], "tie", k)

    def test_places_that_are_not_tied(self):
        for pair in ((1, 4), (4, 1), (3, 3), (4, 4), (0, 0)):
            self.fault(EXAMPLE, [*EXAMPLE_ARROWS, pair], "tie", 6)
            self.fault(EXAMPLE, [pair, *EXAMPLE_ARROWS], "tie", 0)

    def test_twice_is_told_of_the_later_one(self):
        for k, (p, q) in enumerate(EXAMPLE_ARROWS):
            for pair in ((p, q), (q, p)):
                self.fault(EXAMPLE, [*EXAMPLE_ARROWS, pair], "twice", 6)
                self.fault(EXAMPLE, [pair, *EXAMPLE_ARROWS], "twice", k + 1)

    def test_out(self):
        self.fault(EXAMPLE, EXAMPLE_ARROWS[1:], "out", 3)
        self.fault(EXAMPLE, EXAMPLE_ARROWS[:5], "out", 4)
        self.fault(EXAMPLE, EXAMPLE_ARROWS[:3], "out", 4)
        # Four from 3 and two from 4: the least one is told.
        self.fault(EXAMPLE, [(3, 4), *EXAMPLE_ARROWS[:5]], "out", 3)
        # An arrow from a corner: one lacks at the inner place.
        self.fault(EXAMPLE, [*EXAMPLE_ARROWS[:4], (2, 4), (4, 3)], "out", 4)
        self.fault(ONE_INNER, [(0, 3), (1, 3), (2, 3)], "out", 3)

    def test_which_comes_first(self):
        self.fault(EXAMPLE, [(3, 0), (3, 0), (0, 1)], "tie", 2)
        self.fault(EXAMPLE, [(3, 0), (3, 0), (1, 4), (0, 1)], "tie", 2)
        self.fault(EXAMPLE, [(4, 0), (3, 1), (1, 3), (0, 4)], "twice", 2)
        self.fault(EXAMPLE, [(4, 0), (4, 0)], "twice", 1)
        self.fault(EXAMPLE, [(4, 0), (4, 3)], "out", 3)

    def test_four_hundred_pairs(self):
        self.fault(EXAMPLE, [(3, 0)] * 400, "twice", 1)
        self.fault(EXAMPLE, [(3, 0)] * 399 + [(10 ** 59, 0)], "tie", 399)
        self.fault(EXAMPLE, [*EXAMPLE_ARROWS, *[(0, 4)] * 394], "twice", 6)


if __name__ == "__main__":
    unittest.main()
