"""What is handed in stays as it was, what is told is the asker's own, refusals are of one class each [2]."""

import copy
import unittest

from tests import samples
from tests.samples import BARE, EXAMPLE, EXAMPLE_ARROWS, EXAMPLE_OUTS, ONE_INNER, ONE_INNER_ARROWS, ONE_INNER_OUTS
from threetrees import arrows, colours, counts, desk, errors, fields, heights, numbers, orders, rings, steps, texts
from threetrees import trees, ways

RINGED = samples.drawing_by(samples.RINGED)
RINGED_BOTH = samples.all_arrows_by_lands(samples.RINGED)
RINGED_ARROWS = RINGED_BOTH[0]
RINGED_OUTS = samples.model_outs(samples.RINGED, RINGED_ARROWS)
DESK_LINES = ("high", "show", "outs", "rings", "rows", "numbers", "field", "all", "low", "undo", "undo", "show", "undo")
DRAWN = (
    (BARE, (), ()), (ONE_INNER, ONE_INNER_ARROWS, ONE_INNER_OUTS), (EXAMPLE, EXAMPLE_ARROWS, EXAMPLE_OUTS),
    (RINGED, RINGED_ARROWS, RINGED_OUTS),
)


def told_by_a_desk(*lines):
    """All that a new desk answers to the lines, and what lies there behind them."""
    one = desk.Desk()
    return ([one.tell(line) for line in lines], one.drawing(), one.arrows(), one.steps())


def asks():
    """All that can be asked: functions, each with what it is handed."""
    for drawing, some, outs in DRAWN:
        for pairs in (list(some), [list(pair) for pair in some], list(some[::-1])):
            yield (arrows.arrow_fault, drawing, pairs)
            yield (arrows.arrow_fault, drawing, pairs + [(0, 1)])
            yield (arrows.arrows_by, drawing, pairs)
        yield (orders.taken_off, drawing)
        yield (colours.outs_of, drawing, some)
        yield (colours.arrows_of, outs)
        yield (colours.is_outs, drawing, outs)
        yield (colours.is_outs, drawing, ((3, 3, 3), *outs))
        yield (numbers.numbers, drawing, outs)
        yield (numbers.points, drawing, outs)
        yield (fields.field, drawing, outs)
        yield (rings.rings, drawing, some)
        for ask in (heights.heights, heights.is_below, heights.greatest_below, heights.least_above):
            yield (ask, drawing, some, some)
        for ask in (heights.lowest, heights.highest):
            yield (ask, drawing)
        yield (ways.way_between, drawing, some, some)
        yield (ways.all_arrows, drawing, 400)
        yield (steps.rows_of, drawing, outs)
        yield (steps.of_rows, *steps.rows_of(drawing, outs))
        yield (told_by_a_desk, "draw " + texts.drawing_text(drawing), *DESK_LINES)
        for ring in ((0, 1, 2), (2, 1, 0)):
            yield (rings.inside, drawing, ring)
            yield (rings.is_left, drawing, ring)
        for colour in range(3):
            yield (trees.walk, drawing, outs, colour)
            for place in range(len(drawing)):
                yield (trees.way_to, outs, place, colour)
                yield (trees.children, drawing, outs, place, colour)
                yield (trees.part, drawing, outs, place, colour)
    yield (numbers.side_of, (0, 0), (1, 0), (0, 1))
    yield (rings.turned, RINGED, RINGED_ARROWS, (3, 4, 5))
    for ask in (heights.heights, heights.is_below, heights.greatest_below, heights.least_above, ways.way_between):
        yield (ask, RINGED, *RINGED_BOTH)
    for m in range(5):
        yield (counts.many_pairs, m)
        yield (counts.all_pairs, m)


def refused():
    """What is refused, with the class of the refusal and its values."""
    yield (errors.NoArrows, {"why": ("tie", 1)}, arrows.arrows_by, EXAMPLE, [(3, 0), (0, 1)])
    yield (errors.NoArrows, {"why": ("twice", 1)}, arrows.arrows_by, EXAMPLE, [(3, 0), (0, 3)])
    yield (errors.NoArrows, {"why": ("out", 3)}, arrows.arrows_by, EXAMPLE, [[4, 0]])
    for ring in ((0, 1, 4), (0, 0, 1), (-1, 10 ** 59, 7), (-5, -4, -2)):
        yield (errors.NoRing, {}, rings.inside, EXAMPLE, ring)
        yield (errors.NoRing, {}, rings.is_left, EXAMPLE, ring)
        yield (errors.NoRing, {}, rings.turned, EXAMPLE, EXAMPLE_ARROWS, ring)
    yield (errors.NoRing, {}, rings.turned, EXAMPLE, EXAMPLE_ARROWS, (0, 3, 4))
    yield (errors.NoRing, {}, rings.turned, RINGED, RINGED_ARROWS, (3, 5, 4))
    yield (errors.TooMany, {}, ways.all_arrows, RINGED, 1)
    yield (errors.NoRows, {"word": "first", "at": 2}, steps.of_rows, "udx", "x")
    yield (errors.NoRows, {"word": "second", "at": 0}, steps.of_rows, "ud", "du")
    yield (errors.NoRows, {"word": "length", "at": 0}, steps.of_rows, "ud", "")
    yield (errors.NoRows, {"word": "over", "at": 1}, steps.of_rows, "uudd", "udud")
    yield (errors.TooMany, {}, counts.many_pairs, 101)
    yield (errors.TooMany, {}, counts.all_pairs, 5)
    yield (errors.NoLine, {}, told_by_a_desk, "undo 1")
    yield (errors.NothingDone, {}, told_by_a_desk, "low", "undo", "undo")
    yield (errors.NoText, {"at": 1}, told_by_a_desk, "draw 12 x")
    yield (errors.NoDrawing, {"word": "count", "at": 1}, told_by_a_desk, "draw 12")
    yield (errors.NoLand, {}, told_by_a_desk, "put 0 2 1")
    yield (errors.NoPlace, {}, told_by_a_desk, "take 0")
    yield (errors.NoTie, {}, told_by_a_desk, "flip 0 1")
    yield (errors.Tied, {"pair": (1, 2)}, told_by_a_desk, "put 0 1 2", "flip 3 0")
    yield (errors.NoRing, {}, told_by_a_desk, "ring 0 1 2")


def lists_in(told):
    """All lists in what is told, it itself, too."""
    found = [told] if isinstance(told, list) else []
    if isinstance(told, (list, tuple)):
        for thing in told:
            found.extend(lists_in(thing))
    return found


class Kept(unittest.TestCase):
    def test_what_is_handed_in_stays_as_it_was(self):
        for ask, *handed in asks():
            before = copy.deepcopy(handed)
            ask(*handed)
            self.assertEqual(handed, before, ask)

    def test_what_is_refused_stays_as_it_was(self):
        for refusal, values, ask, *handed in refused():
            before = copy.deepcopy(handed)
            self.assertRaises(refusal, ask, *handed)
            self.assertEqual(handed, before, ask)

    def test_lists_that_are_changed_afterwards_change_nothing_that_was_told(self):
        for ask, *shared in asks():
            handed = copy.deepcopy(shared)
            told = ask(*handed)
            before = copy.deepcopy(told)
            for changed in lists_in(handed):
                changed.reverse()
                changed.append(7)
            self.assertEqual(told, before, ask)

    def test_a_refusal_stays_as_it_was_too(self):
        for refusal, values, ask, *handed in refused():
            with self.assertRaises(refusal) as caught:
                ask(*handed)
            for changed in lists_in(handed):
                changed.clear()
            for value in values:
                self.assertEqual(getattr(caught.exception, value), values[value])


class TheAskersOwn(unittest.TestCase):
    def test_told_lists_that_are_changed_come_back_as_they_were(self):
        counted = 0
        for ask, *handed in asks():
            first, second = ask(*handed), ask(*handed)
            kept = copy.deepcopy(first)
            for changed in lists_in(first):
                changed.append(9)
                changed.reverse()
                counted += 1
            self.assertEqual(second, kept, ask)
            for changed in lists_in(second):
                changed.clear()
            self.assertEqual(ask(*handed), kept, ask)
        self.assertGreater(counted, 100)

    def test_no_list_is_told_twice(self):
        for ask, *handed in asks():
            first, second = lists_in(ask(*handed)), lists_in(ask(*handed))
            self.assertFalse({id(one) for one in first} & {id(one) for one in second}, ask)
            self.assertEqual(len({id(one) for one in first}), len(first))

    def test_the_list_within_taken_off(self):
        order, some = orders.taken_off(EXAMPLE)
        order.clear()
        self.assertEqual(orders.taken_off(EXAMPLE), ([4, 3], EXAMPLE_ARROWS))
        self.assertEqual(some, EXAMPLE_ARROWS)

    def test_what_one_function_told_changes_no_other_one(self):
        before = [copy.deepcopy(ask(*handed)) for ask, *handed in asks()]
        for ask, *handed in asks():
            for changed in lists_in(ask(*handed)):
                changed.clear()
        self.assertEqual([ask(*handed) for ask, *handed in asks()], before)


class Refusals(unittest.TestCase):
    def test_each_is_of_its_class_alone_and_has_its_values(self):
        names = [name for name in vars(errors) if name[0].isupper() and name != "TreesError"]
        for refusal, values, ask, *handed in refused():
            with self.assertRaises(errors.TreesError) as caught:
                ask(*handed)
            self.assertIs(type(caught.exception), refusal)
            self.assertIsInstance(caught.exception, ValueError)
            of = [name for name in names if isinstance(caught.exception, getattr(errors, name))]
            self.assertEqual(of, [refusal.__name__])
            for value in values:
                self.assertEqual(getattr(caught.exception, value), values[value])


if __name__ == "__main__":
    unittest.main()
