"""The field of a drawing with outs [4, 21]."""

import inspect
import unittest

from tests import samples
from tests.samples import BARE, EXAMPLE, EXAMPLE_OUTS, ONE_INNER, ONE_INNER_OUTS
from threetrees import fields
from threetrees.fields import field


class Field(unittest.TestCase):
    def test_names_and_arguments(self):
        self.assertEqual(list(inspect.signature(fields.field).parameters), ["drawing", "outs"])

    def test_kinds(self):
        told = field(EXAMPLE, EXAMPLE_OUTS)
        self.assertEqual([type(told), *map(type, told)], [list] + [str] * 6)

    def test_example(self):
        self.assertEqual(field(EXAMPLE, EXAMPLE_OUTS), [
            "2.....",
            "......",
            "......",
            ".4....",
            "...3..",
            "0....1",
        ])

    def test_without_inner_places(self):
        self.assertEqual(field(BARE, ()), ["2.", "01"])

    def test_one_inner_place(self):
        self.assertEqual(field(ONE_INNER, ONE_INNER_OUTS), ["2...", "....", ".3..", "0..1"])

    def test_all_samples(self):
        for drawing, lands, outs in samples.with_outs():
            size = 2 * len(drawing) - 4
            grid = [["."] * size for row in range(size)]
            for place in range(len(drawing)):
                if place > 2:
                    x, y = [len(samples.model_part(lands, outs, place, i)) for i in (1, 2)]
                else:
                    x, y = [(0, 0), (size - 1, 0), (0, size - 1)][place]
                grid[size - 1 - y][x] = str(place)
            self.assertEqual(field(drawing, outs), ["".join(row) for row in grid])

    def test_each_place_has_one_sign(self):
        for drawing, lands, outs in samples.with_outs():
            told = field(drawing, outs)
            self.assertEqual([len(told), *map(len, told)], [2 * len(drawing) - 4] * (2 * len(drawing) - 3))
            signs = sorted("".join(told).replace(".", ""))
            self.assertEqual(signs, [str(place) for place in range(len(drawing))])
            self.assertEqual((told[-1][0], told[-1][-1], told[0][0]), ("0", "1", "2"))


if __name__ == "__main__":
    unittest.main()
