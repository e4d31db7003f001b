"""How many pairs of rows there are, and all of them for few inner places [33]."""

import inspect
import itertools
import math
import unittest

from tests import samples
from threetrees import counts as module
from threetrees.counts import all_pairs, many_pairs
from threetrees.errors import TooMany

FAR_OFF = (-(10 ** 60 - 1), -(10 ** 59), -2 ** 64, -101, -100, -5, -4, -1, 10 ** 59, 10 ** 60 - 1, 2 ** 32, 2 ** 64)


def c(k):
    """In closed form, not by steps as the document has it."""
    return math.comb(2 * k, k) // (k + 1)


class Interface(unittest.TestCase):
    def test_names_and_arguments(self):
        for name in ("many_pairs", "all_pairs"):
            self.assertEqual(list(inspect.signature(getattr(module, name)).parameters), ["m"])

    def test_kinds(self):
        for m in range(5):
            self.assertIs(type(many_pairs(m)), int)
            told = all_pairs(m)
            self.assertIs(type(told), list)
            self.assertEqual({type(pair) for pair in told}, {tuple})
            self.assertEqual({(len(pair), type(pair[0]), type(pair[1])) for pair in told}, {(2, str, str)})


class ManyPairs(unittest.TestCase):
    def test_few(self):
        self.assertEqual([many_pairs(m) for m in range(8)], [1, 1, 3, 14, 84, 594, 4719, 40898])

    def test_the_products(self):
        for m in range(101):
            self.assertEqual(many_pairs(m), c(m) * c(m + 2) - c(m + 1) ** 2)

    def test_as_many_as_all_pairs(self):
        for m in range(5):
            self.assertEqual(many_pairs(m), len(all_pairs(m)))

    def test_as_many_as_the_pairs_that_are_found_by_trying(self):
        for m in range(7):
            self.assertEqual(many_pairs(m), len(samples.model_pairs(m)))

    def test_as_many_as_drawings_with_outs(self):
        # Each drawing with outs comes once for each way to number its inner places.
        for m in range(4):
            found = sum(len(samples.all_arrows_by_lands(lands)) for lands in samples.all_by_lands(m + 3))
            self.assertEqual(many_pairs(m) * math.factorial(m), found)

    def test_refused(self):
        for m in (*FAR_OFF, 101, 102, 1000):
            self.assertRaises(TooMany, many_pairs, m)


class AllPairs(unittest.TestCase):
    def test_few(self):
        self.assertEqual(all_pairs(0), [("", "")])
        self.assertEqual(all_pairs(1), [("ud", "ud")])
        self.assertEqual(all_pairs(2), [("udud", "udud"), ("udud", "uudd"), ("uudd", "uudd")])

    def test_all(self):
        for m in range(5):
            self.assertEqual(all_pairs(m), list(samples.model_pairs(m)))

    def test_rising_and_each_once(self):
        for m in range(5):
            told = all_pairs(m)
            self.assertEqual(told, sorted(set(told)))
            for first, second in told:
                self.assertEqual((len(first), len(second)), (2 * m, 2 * m))

    def test_refused(self):
        for m in (*FAR_OFF, 5, 6, 7, 100, 101):
            self.assertRaises(TooMany, all_pairs, m)

    def test_a_told_list_that_is_changed_changes_nothing(self):
        for m in range(5):
            told = all_pairs(m)
            kept = list(told)
            told.reverse()
            told.append(("du", "ud"))
            self.assertEqual(all_pairs(m), kept)
            told.clear()
            self.assertEqual(all_pairs(m), kept)
            self.assertEqual(many_pairs(m), len(kept))

    def test_each_refused_one_leaves_the_others_as_they_are(self):
        for m, ask in itertools.product((-1, 101), (many_pairs, all_pairs)):
            self.assertRaises(TooMany, ask, m)
        self.assertEqual([len(all_pairs(m)) for m in range(5)], [1, 1, 3, 14, 84])


if __name__ == "__main__":
    unittest.main()
