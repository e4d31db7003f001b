"""Drawings: turns looked through, lands and ties [2, 4 to 8]."""

import inspect
import itertools
import unittest

from tests import samples
from tests.samples import BARE, EXAMPLE, NO_PLACES, ON_A_RING, ON_TWO_RINGS, ONE_INNER
from threetrees import drawings
from threetrees.drawings import checked, inner_lands, inner_ties, lands, left_of, tied
from threetrees.errors import NoDrawing, NoTie


def all_samples():
    return [by_lands for n in range(3, 11) for by_lands in samples.some_by_lands(n)]


class Interface(unittest.TestCase):
    def test_names_and_arguments(self):
        arguments = {
            "checked": ["turns"], "tied": ["drawing", "p", "q"], "left_of": ["drawing", "p", "q"],
            "lands": ["drawing"], "inner_lands": ["drawing"], "inner_ties": ["drawing"],
        }
        for name, names in arguments.items():
            with self.subTest(name):
                self.assertEqual(list(inspect.signature(getattr(drawings, name)).parameters), names)


class Samples(unittest.TestCase):
    def test_there_are_as_many_drawings_as_are_known(self):
        # 1, 1, 3, 13 shapes with 0, 1, 2, 3 inner places, each with all ways to number these.
        self.assertEqual([len(samples.all_by_lands(n)) for n in (3, 4, 5, 6)], [1, 1, 3 * 2, 13 * 6])

    def test_the_samples_reach_ten_places(self):
        for n in range(7, 11):
            self.assertGreater(len(samples.some_by_lands(n)), 15)

    def test_the_known_drawings_are_among_them(self):
        for n, drawing in ((3, BARE), (4, ONE_INNER), (5, EXAMPLE)):
            self.assertIn(drawing, [samples.drawing_by(by_lands) for by_lands in samples.all_by_lands(n)])


class Taken(unittest.TestCase):
    def test_example(self):
        turns = [[1, 3, 4, 2], [0, 2, 3], [0, 4, 3, 1], [0, 1, 2, 4], [0, 3, 2]]
        self.assertEqual(checked(turns), EXAMPLE)

    def test_without_inner_places(self):
        self.assertEqual(checked([[1, 2], [0, 2], [0, 1]]), BARE)
        self.assertEqual(checked([[2, 1], [2, 0], [1, 0]]), BARE)

    def test_one_inner_place(self):
        self.assertEqual(checked([[3, 2, 1], [2, 3, 0], [3, 1, 0], [2, 0, 1]]), ONE_INNER)

    def test_every_sample_is_taken_as_it_is(self):
        for by_lands in all_samples():
            drawing = samples.drawing_by(by_lands)
            self.assertEqual(checked(list(drawing)), drawing)

    def test_turns_begin_with_whichever_and_are_told_from_the_least(self):
        for by_lands in all_samples():
            drawing = samples.drawing_by(by_lands)
            for steps in range(1, 6):
                turns = [list(samples.turned_on(turn, (steps * (p + 1)) % len(turn))) for p, turn in enumerate(drawing)]
                self.assertEqual(checked(turns), drawing)

    def test_each_beginning_of_each_turn_of_the_example(self):
        ways = [[samples.turned_on(turn, k) for k in range(len(turn))] for turn in EXAMPLE]
        for turns in itertools.product(*ways):
            self.assertEqual(checked(list(turns)), EXAMPLE)
            self.assertEqual(checked([list(turn) for turn in turns]), EXAMPLE)

    def test_told_are_tuples_of_tuples_whether_lists_or_tuples_were_handed_in(self):
        for turns in ([[2, 1], [0, 2], [1, 0]], [(2, 1), (0, 2), (1, 0)], [[2, 1], (0, 2), [1, 0]]):
            drawing = checked(turns)
            self.assertEqual(drawing, BARE)
            self.assertIs(type(drawing), tuple)
            self.assertEqual([type(turn) for turn in drawing], [tuple] * 3)
            self.assertEqual({type(q) for turn in drawing for q in turn}, {int})


class Kept(unittest.TestCase):
    def test_turns_handed_in_stay_as_they_were(self):
        turns = [[2, 1], [2, 0], [1, 0]]
        checked(turns)
        self.assertEqual(turns, [[2, 1], [2, 0], [1, 0]])
        self.assertEqual([type(turn) for turn in turns], [list] * 3)

    def test_refused_turns_stay_as_they_were(self):
        for turns in ([], [[]], [[1], [0], []], [[1, 1], [0], [1]], [[2, 1], [0], [1]], [[1], [0, 2], [1]]):
            before = [list(turn) for turn in turns]
            with self.assertRaises(NoDrawing):
                checked(turns)
            self.assertEqual(turns, before)

    def test_turns_changed_afterwards_change_nothing_told(self):
        turns = [list(turn) for turn in EXAMPLE]
        drawing = checked(turns)
        turns[0].append(9)
        turns[1][0] = 7
        turns.pop()
        self.assertEqual(drawing, EXAMPLE)
        self.assertEqual(checked([list(turn) for turn in EXAMPLE]), EXAMPLE)

    def test_told_lists_are_the_askers_own(self):
        for drawing in (BARE, ONE_INNER, EXAMPLE):
            for ask in (lands, inner_lands, inner_ties):
                first = ask(drawing)
                kept, second = list(first), ask(drawing)
                self.assertIs(type(first), list)
                self.assertIsNot(first, second)
                first.append((9, 9, 9))
                first.reverse()
                self.assertEqual(second, kept)
                self.assertEqual(ask(drawing), kept)
                second.clear()
                self.assertEqual(ask(drawing), kept)

    def test_one_list_that_is_changed_changes_no_other_one(self):
        told = lands(EXAMPLE)
        told.clear()
        self.assertEqual(len(inner_lands(EXAMPLE)), 5)
        inner_lands(EXAMPLE).clear()
        self.assertEqual(len(lands(EXAMPLE)), 6)
        self.assertEqual(checked(list(EXAMPLE)), EXAMPLE)


class Lands(unittest.TestCase):
    def test_example(self):
        inner = [(0, 1, 3), (0, 3, 4), (0, 4, 2), (1, 2, 3), (2, 4, 3)]
        self.assertEqual(inner_lands(EXAMPLE), inner)
        self.assertEqual(lands(EXAMPLE), [(0, 1, 3), (0, 2, 1), (0, 3, 4), (0, 4, 2), (1, 2, 3), (2, 4, 3)])

    def test_without_inner_places(self):
        self.assertEqual(lands(BARE), [(0, 1, 2), (0, 2, 1)])
        self.assertEqual(inner_lands(BARE), [(0, 1, 2)])

    def test_one_inner_place(self):
        self.assertEqual(lands(ONE_INNER), [(0, 1, 3), (0, 2, 1), (0, 3, 2), (1, 2, 3)])
        self.assertEqual(inner_lands(ONE_INNER), [(0, 1, 3), (0, 3, 2), (1, 2, 3)])

    def test_every_sample(self):
        for by_lands in all_samples():
            drawing = samples.drawing_by(by_lands)
            self.assertEqual(lands(drawing), sorted(by_lands))
            self.assertEqual(inner_lands(drawing), samples.inner_of(by_lands))
            self.assertEqual(len(lands(drawing)), 2 * len(drawing) - 4)
            self.assertEqual(len(inner_lands(drawing)), 2 * len(drawing) - 5)

    def test_lands_are_tuples(self):
        self.assertEqual({type(land) for land in lands(EXAMPLE) + inner_lands(EXAMPLE)}, {tuple})


class Ties(unittest.TestCase):
    def test_example(self):
        self.assertEqual(inner_ties(EXAMPLE), [(0, 3), (0, 4), (1, 3), (2, 3), (2, 4), (3, 4)])

    def test_without_inner_places(self):
        self.assertEqual(inner_ties(BARE), [])

    def test_every_sample(self):
        for by_lands in all_samples():
            drawing = samples.drawing_by(by_lands)
            self.assertEqual(inner_ties(drawing), samples.inner_ties_of(by_lands))
            self.assertEqual(len(inner_ties(drawing)), 3 * len(drawing) - 9)

    def test_ties_are_pairs(self):
        self.assertEqual({type(pair) for pair in inner_ties(EXAMPLE)}, {tuple})

    def test_tied_in_the_example(self):
        self.assertIs(tied(EXAMPLE, 0, 4), True)
        self.assertIs(tied(EXAMPLE, 4, 0), True)
        self.assertIs(tied(EXAMPLE, 1, 4), False)
        self.assertIs(tied(EXAMPLE, 4, 1), False)
        self.assertIs(tied(EXAMPLE, 2, 2), False)

    def test_left_of_in_the_example(self):
        asked = {(0, 3): 4, (3, 4): 0, (4, 0): 3, (0, 1): 3, (1, 0): 2, (0, 2): 1, (2, 0): 4, (3, 0): 1, (4, 3): 2}
        for (p, q), third in asked.items():
            self.assertEqual(left_of(EXAMPLE, p, q), third)

    def test_left_of_without_inner_places(self):
        for p, q in itertools.permutations(range(3), 2):
            self.assertEqual(left_of(BARE, p, q), 3 - p - q)

    def test_each_two_places_of_every_sample(self):
        for by_lands in all_samples():
            drawing = samples.drawing_by(by_lands)
            thirds = samples.third_corners(by_lands)
            for p, q in itertools.product(range(len(drawing)), repeat=2):
                self.assertIs(tied(drawing, p, q), (p, q) in thirds)
                if (p, q) in thirds:
                    self.assertEqual(left_of(drawing, p, q), thirds[p, q])
                else:
                    self.assertRaises(NoTie, left_of, drawing, p, q)

    def test_numbers_that_are_no_places(self):
        for drawing in (BARE, ONE_INNER, EXAMPLE):
            n = len(drawing)
            strange = [*NO_PLACES, -n, -n - 1, 1 - n, n, n + 1]
            for p, q in [*itertools.product(strange, range(n)), *itertools.product(range(n), strange),
                         *itertools.product(strange, repeat=2)]:
                self.assertIs(tied(drawing, p, q), False)
                self.assertRaises(NoTie, left_of, drawing, p, q)


class Refused(unittest.TestCase):
    def refused(self, turns, word, at):
        with self.subTest(turns=turns):
            with self.assertRaises(NoDrawing) as caught:
                checked(turns)
            self.assertEqual((caught.exception.word, caught.exception.at), (word, at))

    def agrees_with_the_model(self, turns):
        fault = samples.model_fault(turns)
        try:
            told = checked(turns)
        except NoDrawing as refusal:
            self.assertEqual((refusal.word, refusal.at), fault, turns)
        else:
            self.assertIsNone(fault, turns)
            self.assertEqual(told, tuple(samples.begun(turn) for turn in turns))

    def test_count(self):
        self.refused([], "count", 0)
        self.refused([[1]], "count", 1)
        self.refused([[1], [0]], "count", 2)
        self.refused([[]] * 11, "count", 11)
        self.refused([[0]] * 400, "count", 400)
        for n in (11, 12):
            self.refused([[(p + 1) % n, (p - 1) % n] for p in range(n)], "count", n)

    def test_count_goes_by_drawings_that_are_too_great(self):
        by_lands = samples.some_by_lands(10)[0]
        greater = samples.drawing_by(samples.lands_put(by_lands, samples.inner_of(by_lands)[0]))
        self.refused(list(greater), "count", 11)

    def test_place_whose_turn_is_empty(self):
        self.refused([[], [0, 2], [0, 1]], "place", 0)
        self.refused([[1, 2], [], [0, 1]], "place", 1)
        self.refused([[1, 2], [0, 2], []], "place", 2)
        self.refused([[], [], []], "place", 0)
        self.refused([()] * 10, "place", 0)

    def test_place_itself(self):
        self.refused([[0, 1, 2], [0, 2], [0, 1]], "place", 0)
        self.refused([[1, 2], [0, 1, 2], [0, 1]], "place", 1)
        self.refused([[1, 2], [0, 2], [2]], "place", 2)

    def test_numbers_that_are_no_places(self):
        for strange in (*NO_PLACES, 3, 4, -3):
            self.refused([[1, 2], [0, 2], [0, 1, strange]], "place", 2)
            self.refused([[1, 2], [strange, 0, 2], [0, 1]], "place", 1)
            self.refused([[1, strange, 2], [0, 2], [0, 1]], "place", 0)
            self.refused([[strange], [strange], [strange]], "place", 0)

    def test_numbers_that_are_no_places_among_ten_places(self):
        drawing = samples.drawing_by(samples.some_by_lands(10)[0])
        for p, strange in itertools.product(range(10), NO_PLACES):
            turns = [list(turn) for turn in drawing]
            turns[p][-1] = strange
            self.refused(turns, "place", p)

    def test_the_least_of_all_three_place_faults_is_told(self):
        self.refused([[1, 2], [1], []], "place", 1)
        self.refused([[1, 2], [], [7]], "place", 1)
        self.refused([[-1], [], [2]], "place", 0)

    def test_twice(self):
        self.refused([[1, 2, 1], [0, 2], [0, 1]], "twice", 0)
        self.refused([[1, 2], [2, 2, 0], [0, 1]], "twice", 1)
        self.refused([[1, 2], [2, 0], [0, 1, 1]], "twice", 2)
        self.refused([[1, 2], [2, 0, 2], [0, 1, 0, 1]], "twice", 1)
        self.refused([[1, 2] * 200, [2, 0], [0, 1]], "twice", 0)

    def test_back(self):
        self.refused([[1], [0, 2], [0, 1]], "back", 2)
        self.refused([[1, 2], [2], [0, 1]], "back", 0)
        self.refused([[1, 2], [0], [0, 1]], "back", 2)
        self.refused([[1], [2], [1]], "back", 0)
        self.refused([[1, 3, 4, 2], [0, 2, 3], [0, 4, 3, 1], [0, 1, 2], [0, 3, 2]], "back", 4)

    def test_apart(self):
        self.refused([[1], [0], [3], [2]], "apart", 2)
        self.refused([[2], [3], [0], [1]], "apart", 1)
        self.refused([[3], [2], [1], [0]], "apart", 1)
        self.refused([[1, 2], [0, 2], [0, 1], [4, 5], [3, 5], [3, 4]], "apart", 3)
        self.refused([[9], [8], [7], [6], [5], [4], [3], [2], [1], [0]], "apart", 1)

    def test_places_far_off_hang_together_too(self):
        # A row of ties from 0 over all others, told so that the far ones are the lesser.
        row = [0, 9, 1, 8, 2, 7, 3, 6, 4, 5]
        turns = [[] for p in row]
        for p, q in zip(row, row[1:]):
            turns[p].append(q)
            turns[q].append(p)
        self.refused(turns, "land", 0)

    def test_land(self):
        # A land of four corners at both sides of a ring.
        self.refused([[1, 3], [0, 2], [1, 3], [0, 2]], "land", 0)
        # A row of two ties: one land of four corners that has but three places.
        self.refused([[1], [0, 2], [1]], "land", 0)
        # The tie of 3 and 4 lacks: the land (1, 4, 2, 3) has four corners, and 0 is none of them.
        self.refused([[1, 3, 2], [0, 2, 4, 3], [0, 3, 4, 1], [0, 1, 2], [1, 2]], "land", 1)

    def test_land_that_comes_to_a_place_again(self):
        # The ring of the places 0, 2, 3, 1, 2, 4, 3: it comes to 2 again ahead of its being shut.
        self.refused([[2, 3], [3, 2], [4, 1, 3, 0], [4, 1, 2, 0], [3, 2]], "land", 0)
        # A triangle, and 0 tied to one of its places alone.
        self.refused([[1], [0, 2, 3], [1, 3], [1, 2]], "land", 0)
        self.refused([[1, 2], [0, 2], [0, 1, 3], [2]], "land", 0)

    def test_land_where_one_inner_tie_lacks(self):
        for by_lands in all_samples():
            thirds = samples.third_corners(by_lands)
            drawing = samples.drawing_by(by_lands)
            for p, q in samples.inner_ties_of(by_lands):
                turns = [list(turn) for turn in drawing]
                turns[p].remove(q)
                turns[q].remove(p)
                self.refused(turns, "land", min(p, q, thirds[p, q], thirds[q, p]))

    def test_flat(self):
        self.refused(list(ON_A_RING), "flat", 14)
        self.refused(list(ON_TWO_RINGS), "flat", 24)
        self.refused([[(-q) % 7 for q in ON_A_RING[-p % 7]] for p in range(7)], "flat", 14)

    def test_flat_comes_ahead_of_outer_and_where_the_outer_land_is_there(self):
        ringed = frozenset(samples.begun(corners) for corners in samples.model_rounds(ON_A_RING))
        self.assertNotIn((0, 2, 1), ringed)
        # Called anew so that the land (0, 1, 3) becomes (0, 2, 1).
        called = {0: 0, 1: 2, 3: 1, 2: 3, 4: 4, 5: 5, 6: 6}
        outer = frozenset(samples.begun([called[p] for p in land]) for land in ringed)
        self.assertIn((0, 2, 1), outer)
        for lands_there in (ringed, outer):
            for n in range(7, 11):
                self.refused(list(samples.drawing_by(lands_there)), "flat", 2 * n)
                lands_there = samples.lands_put(lands_there, samples.inner_of(lands_there)[n])

    def test_outer(self):
        # The drawing with one inner place, looked at from behind.
        self.refused([[1, 2, 3], [0, 3, 2], [0, 1, 3], [0, 2, 1]], "outer", 0)
        # The example with 3 and 1 called by one another's numbers.
        self.refused([[3, 1, 4, 2], [0, 3, 2, 4], [0, 4, 1, 3], [0, 2, 1], [0, 1, 2]], "outer", 0)

    def test_outer_for_every_sample_seen_from_behind(self):
        for by_lands in all_samples():
            drawing = samples.drawing_by(by_lands)
            if len(drawing) > 3:
                self.refused([turn[::-1] for turn in drawing], "outer", 0)

    def test_each_way_to_call_the_places_of_the_example(self):
        for called in itertools.permutations(range(5)):
            turns = [None] * 5
            for p, turn in enumerate(EXAMPLE):
                turns[called[p]] = [called[q] for q in turn]
            self.agrees_with_the_model(turns)

    def test_what_comes_first_of_several_faults(self):
        self.refused([[], [5]], "count", 2)
        self.refused([[1, 1], [0, 0], [2]], "place", 2)
        self.refused([[1, 1, 2], [2], []], "place", 2)
        self.refused([[1], [2, 2, 0], [0, 1]], "twice", 1)
        self.refused([[1], [0], [3], [2, 0]], "back", 3)
        self.refused([[1], [0], [3], [2], [0, 0]], "twice", 4)
        self.refused([[2], [3, 4], [0], [1, 4, 5], [1, 3], [3]], "apart", 1)
        self.refused([[1, 3, 4], [0, 2], [1, 3], [2, 0], [0]], "land", 0)

    def test_all_turns_of_three_places(self):
        numbers = (-1, 0, 1, 2, 3)
        turns = [turn for k in range(3) for turn in itertools.product(numbers, repeat=k)]
        turns += [(1, 2, 1), (0, 2, 2), (2, 0, 0), (1, 0, 0), (2, 1, 0)]
        for three in itertools.product(turns, repeat=3):
            self.agrees_with_the_model(list(three))

    def test_all_turns_of_four_places_without_numbers_that_stand_twice(self):
        turns = [[turn for k in (1, 2, 3) for turn in itertools.permutations([q for q in range(4) if q != p], k)]
                 for p in range(4)]
        for four in itertools.product(*turns):
            self.agrees_with_the_model(list(four))

    def test_all_orders_of_the_turns_of_the_example(self):
        for turns in itertools.product(*[list(itertools.permutations(turn)) for turn in EXAMPLE[:4]]):
            self.agrees_with_the_model([*turns, EXAMPLE[4]])

    def test_samples_with_one_number_changed_left_out_or_told_again(self):
        for by_lands in all_samples()[::4]:
            drawing = samples.drawing_by(by_lands)
            n = len(drawing)
            for p in range(n):
                k = (p + n) % len(drawing[p])
                for new in ([], [drawing[p][k - 1]], [n], [p], [drawing[p][k]] * 2, [(drawing[p][k] + 1) % n]):
                    turns = [list(turn) for turn in drawing]
                    turns[p][k:k + 1] = new
                    self.agrees_with_the_model(turns)
                turns = [list(turn) for turn in drawing]
                turns[p][k], turns[p][k - 1] = turns[p][k - 1], turns[p][k]
                self.agrees_with_the_model(turns)


if __name__ == "__main__":
    unittest.main()
