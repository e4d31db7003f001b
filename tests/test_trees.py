"""Trees: ways, children, walks and parts [4, 16, 17, 18]."""

import inspect
import unittest

from tests import samples
from tests.samples import BARE, EXAMPLE, EXAMPLE_OUTS, ONE_INNER, ONE_INNER_OUTS
from threetrees import trees
from threetrees.drawings import inner_lands
from threetrees.trees import children, part, walk, way_to


def model_children(drawing, outs, place, colour):
    """Round the place from the place that is told, as the document tells it."""
    if place < 3 and place != colour:
        return []
    first = [1, 2, 0][colour] if place < 3 else outs[place - 3][(1, 2, 0)[colour]]
    turn = drawing[place]
    k = turn.index(first)
    return [q for q in turn[k:] + turn[:k] if samples.arrows_by_colour(outs, colour).get(q) == place]


def model_walk(drawing, outs, colour):
    def walked_from(place):
        found = []
        for child in model_children(drawing, outs, place, colour):
            found.append(child)
            found.extend(walked_from(child))
        return found
    return walked_from(colour)


class Interface(unittest.TestCase):
    def test_names_and_arguments(self):
        arguments = {
            "way_to": ["outs", "place", "colour"], "children": ["drawing", "outs", "place", "colour"],
            "walk": ["drawing", "outs", "colour"], "part": ["drawing", "outs", "place", "i"],
        }
        for name, names in arguments.items():
            self.assertEqual(list(inspect.signature(getattr(trees, name)).parameters), names)

    def test_kinds(self):
        told = [way_to(EXAMPLE_OUTS, 4, 1), children(EXAMPLE, EXAMPLE_OUTS, 0, 0), children(EXAMPLE, EXAMPLE_OUTS, 1, 0),
                walk(EXAMPLE, EXAMPLE_OUTS, 2), walk(BARE, (), 2), part(EXAMPLE, EXAMPLE_OUTS, 3, 1),
                part(EXAMPLE, EXAMPLE_OUTS, 0, 0), part(EXAMPLE, EXAMPLE_OUTS, 0, 1)]
        self.assertEqual({type(row) for row in told}, {list})
        self.assertEqual({type(land) for land in told[5] + told[6]}, {tuple})


class Ways(unittest.TestCase):
    def test_example(self):
        asked = {(3, 0): [3, 0], (3, 1): [3, 1], (3, 2): [3, 2], (4, 0): [4, 0], (4, 1): [4, 3, 1], (4, 2): [4, 2]}
        for (place, colour), way in asked.items():
            self.assertEqual(way_to(EXAMPLE_OUTS, place, colour), way)

    def test_corners(self):
        for outs in ((), ONE_INNER_OUTS, EXAMPLE_OUTS):
            for place in range(3):
                for colour in range(3):
                    self.assertEqual(way_to(outs, place, colour), [place])

    def test_each_way_goes_by_arrows_of_its_colour_to_its_corner(self):
        for drawing, lands, outs in samples.with_outs():
            for place in range(3, len(drawing)):
                for colour in range(3):
                    way = way_to(outs, place, colour)
                    self.assertEqual((way[0], way[-1]), (place, colour))
                    for p, q in zip(way, way[1:]):
                        self.assertEqual(outs[p - 3][colour], q)
                    self.assertEqual([q for q in way[:-1] if q < 3], [])

    def test_the_three_ways_have_only_the_place_in_common(self):
        for drawing, lands, outs in samples.with_outs():
            for place in range(3, len(drawing)):
                ways = [way_to(outs, place, colour) for colour in range(3)]
                for one, other in ((0, 1), (1, 2), (2, 0)):
                    self.assertEqual(set(ways[one]) & set(ways[other]), {place})
            for place in range(3):
                self.assertEqual([way_to(outs, place, colour) for colour in range(3)], [[place]] * 3)


class Children(unittest.TestCase):
    def test_example(self):
        asked = {(0, 0): [3, 4], (1, 1): [3], (2, 2): [4, 3], (3, 1): [4]}
        for place in range(5):
            for colour in range(3):
                told = children(EXAMPLE, EXAMPLE_OUTS, place, colour)
                self.assertEqual(told, asked.get((place, colour), []), (place, colour))

    def test_without_inner_places(self):
        for place in range(3):
            for colour in range(3):
                self.assertEqual(children(BARE, (), place, colour), [])

    def test_one_inner_place(self):
        for place in range(4):
            for colour in range(3):
                asked = [3] if place == colour else []
                self.assertEqual(children(ONE_INNER, ONE_INNER_OUTS, place, colour), asked)

    def test_all_samples(self):
        longest = 0
        for drawing, lands, outs in samples.with_outs():
            for place in range(len(drawing)):
                for colour in range(3):
                    told = children(drawing, outs, place, colour)
                    self.assertEqual(told, model_children(drawing, outs, place, colour))
                    if place > 2:
                        longest = max(longest, len(told))
        # The order is only looked at where an inner place has several.
        self.assertGreater(longest, 2)

    def test_of_each_place_but_the_corners_there_is_one_of_which_it_is_a_child(self):
        for drawing, lands, outs in samples.with_outs():
            for colour in range(3):
                found = [q for place in range(len(drawing)) for q in children(drawing, outs, place, colour)]
                self.assertEqual(sorted(found), list(range(3, len(drawing))))

    def test_the_other_two_corners_have_none(self):
        for drawing, lands, outs in samples.with_outs():
            for place, colour in ((0, 1), (0, 2), (1, 0), (1, 2), (2, 0), (2, 1)):
                self.assertEqual(children(drawing, outs, place, colour), [])


class Walks(unittest.TestCase):
    def test_example(self):
        walks = [walk(EXAMPLE, EXAMPLE_OUTS, colour) for colour in range(3)]
        self.assertEqual(walks, [[3, 4], [3, 4], [4, 3]])

    def test_without_inner_places(self):
        self.assertEqual([walk(BARE, (), colour) for colour in range(3)], [[], [], []])

    def test_children_come_at_once_behind_their_place(self):
        # Each corner has two children, and the first one of these has one itself.
        drawing = samples.drawing_by(samples.renamed(samples.RINGED, (4, 3, 5)))
        outs = ((4, 1, 2), (0, 1, 5), (0, 3, 2))
        self.assertEqual(walk(drawing, outs, 0), [4, 3, 5])
        self.assertEqual(walk(drawing, outs, 1), [3, 5, 4])
        self.assertEqual(walk(drawing, outs, 2), [5, 4, 3])

    def test_all_samples(self):
        for drawing, lands, outs in samples.with_outs():
            for colour in range(3):
                told = walk(drawing, outs, colour)
                self.assertEqual(told, model_walk(drawing, outs, colour))
                self.assertEqual(sorted(told), list(range(3, len(drawing))))


class Parts(unittest.TestCase):
    def test_example(self):
        asked = {
            (3, 0): [(1, 2, 3)], (3, 1): [(0, 3, 4), (0, 4, 2), (2, 4, 3)], (3, 2): [(0, 1, 3)],
            (4, 0): [(1, 2, 3), (2, 4, 3)], (4, 1): [(0, 4, 2)], (4, 2): [(0, 1, 3), (0, 3, 4)],
        }
        for (place, i), lands in asked.items():
            self.assertEqual(part(EXAMPLE, EXAMPLE_OUTS, place, i), lands)

    def test_corners(self):
        for drawing, lands, outs in samples.with_outs():
            for place in range(3):
                for i in range(3):
                    asked = samples.inner_of(lands) if place == i else []
                    self.assertEqual(part(drawing, outs, place, i), asked)

    def test_without_inner_places(self):
        self.assertEqual([part(BARE, (), 1, i) for i in range(3)], [[], [(0, 1, 2)], []])

    def test_all_samples(self):
        for drawing, lands, outs in samples.with_outs():
            for place in range(3, len(drawing)):
                for i in range(3):
                    self.assertEqual(part(drawing, outs, place, i), samples.model_part(lands, outs, place, i))

    def test_each_inner_land_is_in_just_one_of_three(self):
        for drawing, lands, outs in samples.with_outs():
            for place in range(len(drawing)):
                told = [land for i in range(3) for land in part(drawing, outs, place, i)]
                self.assertEqual(sorted(told), inner_lands(drawing))

    def test_each_part_has_the_land_at_its_outer_tie_and_the_corners_of_its_rim(self):
        for drawing, lands, outs in samples.with_outs():
            for place in range(3, len(drawing)):
                for i in range(3):
                    told = part(drawing, outs, place, i)
                    ties = [{(i + 1) % 3, (i + 2) % 3} <= set(land) for land in told]
                    self.assertEqual(ties.count(True), 1)
                    rim = way_to(outs, place, (i + 1) % 3) + way_to(outs, place, (i + 2) % 3)
                    self.assertEqual([q for q in rim if not any(q in land for land in told)], [])


if __name__ == "__main__":
    unittest.main()
