"""[3.1], [3.2], with [0.2] to [0.4] as far as they touch plans."""

import copy
import unittest

from cutnotes.errors import NoCuts, NoPlace, NoPlan
from cutnotes.forests import Forest, is_row, row, way
from cutnotes.notes import is_single
from cutnotes.plans import cuts_of, is_plan, notes_of, plan_of, stack
from common import (
    BIG, H, LONE, MIXED, S, all_cuts, chance, cut_up, full_forests, long_forest, nested, notes_by_words,
    odd_numbers, odd_things, plans_by_words, small_forests, some_forest, some_plan, spoiled, stack_by_words)


def mixed_up(below, places):
    """All numbers below so many, in an order by chance."""
    order = list(range(places))
    for at in range(places - 1, 0, -1):
        other = below(at + 1)
        order[at], order[other] = order[other], order[at]
    return tuple(order)


class CutsTest(unittest.TestCase):

    def test_against_cutting_step_by_step(self):
        for forest in small_forests(3):
            for cuts in all_cuts(forest):
                plan = self.cut_alike(forest, cuts)
                self.assertIs(is_single(forest, notes_of(forest, plan)), True)

    def test_all_levels_are_had(self):
        for places in (1, 2, 3, 4):
            for forest in full_forests(places):
                had = set()
                for cuts in all_cuts(forest):
                    had.add(self.cut_alike(forest, cuts))
                self.assertEqual(sorted(had), plans_by_words(forest))

    def test_four_places_some_of_which_bear_or_ask(self):
        below = chance(8)
        for forest in full_forests(4):
            some = some_forest(below, 4)
            for parted in (Forest(forest.parents, some.bearing, some.asking),
                           Forest(forest.parents, some.asking, some.bearing)):
                for cuts in all_cuts(parted):
                    self.cut_alike(parted, cuts)

    def test_five_places(self):
        below = chance(3)
        for forest in full_forests(5):
            for _ in range(20):
                self.cut_alike(forest, mixed_up(below, 5))

    def cut_alike(self, forest, cuts):
        plan, made = cut_up(forest, cuts)
        self.assertEqual(plan_of(forest, cuts), plan)
        self.assertEqual(notes_of(forest, plan), tuple([made[s] for s in sorted(made)]))
        return plan

    def test_large_forests(self):
        below = chance(4)
        forests = [row(60), Forest((None,) * 60, (0, 59), (59,)), some_forest(below, 60),
                   long_forest(below, 60), long_forest(below, 37)]
        for forest in forests:
            for _ in range(3):
                self.cut_alike(forest, mixed_up(below, len(forest.parents)))
        self.assertEqual(plan_of(row(60), tuple(range(60))), tuple(range(1, 61)))
        self.assertEqual(plan_of(row(60), tuple(range(59, -1, -1))), (1,) * 60)

    def test_no_cuts(self):
        wrong = [(), [], [0, 1, 2, 3], (0, 1, 2), (0, 1, 2, 3, 4), (0, 1, 2, 2), (1, 2, 3, 4), (-1, 0, 1, 2),
                 (0, True, 2, 3), (False, 1, 2, 3), (0, 1, 2, "3"), (0, 1, 2, None), (0, 1, 2, [3]),
                 (0, 1, 2, (3,)), (0, 1, 2, BIG), "0123", b"\x00\x01\x02\x03", range(4), {0: 0, 1: 1, 2: 2, 3: 3}]
        for thing in wrong + odd_numbers():
            self.assertRaises(NoCuts, plan_of, H, thing)
        for odd in odd_numbers():
            for thing in spoiled((3, 1, 0, 2), odd):
                self.assertRaises(NoCuts, plan_of, H, thing)

    def test_cuts_of_each_plan(self):
        for places in (1, 2, 3, 4, 5):
            for forest in full_forests(places):
                for plan in plans_by_words(forest):
                    self.came_back(forest, plan)
        below = chance(5)
        for forest in (row(60), Forest((None,) * 60, (), ()), some_forest(below, 60), long_forest(below, 60)):
            for _ in range(8):
                self.came_back(forest, some_plan(below, forest))

    def came_back(self, forest, plan):
        cuts = cuts_of(forest, plan)
        self.assertIs(type(cuts), tuple)
        self.assertEqual(sorted(cuts), list(range(len(plan))))
        self.assertEqual(plan_of(forest, cuts), plan)
        self.assertEqual(cut_up(forest, cuts)[0], plan)


class PlanTest(unittest.TestCase):

    def refused(self, forest, thing):
        self.assertIs(is_plan(forest, thing), False)
        self.assertRaises(NoPlan, cuts_of, forest, thing)
        self.assertRaises(NoPlan, notes_of, forest, thing)
        self.assertRaises(NoPlan, stack, forest, thing, 0)

    def test_plans_are_plans(self):
        for places in (1, 2, 3, 4):
            for forest in full_forests(places):
                for plan in plans_by_words(forest):
                    self.assertIs(is_plan(forest, plan), True)

    def test_things_near_a_plan(self):
        for thing in (
                (), (1, 1, 2), (1, 1, 2, 2, 1), [1, 1, 2, 2], (0, 1, 2, 2), (2, 1, 2, 2), (1, 0, 2, 1),
                (1, 3, 2, 2), (1, 1, 3, 2), (1, 1, 2, 3), (1, 2, 2, 4), (1, -1, 2, 0), (1, 1, 2, True),
                (True, 1, 2, 2), (1, True, 1, 1), (1, False, 1, 1), (1, 1, 2, "2"), (1, 1, 2, (2,)),
                (1, 1, 2, None), (None, 1, 2, 2), (1, BIG, 1, 1), (1, 2, 2, BIG), "1122", b"\x01\x01\x02\x02",
                range(1, 5), {0: 1, 1: 1, 2: 2, 3: 2}, (1, 1, 2, nested(39, "list"))):
            self.refused(H, thing)
        self.refused(Forest((None, None), (), ()), (1, 2))
        self.refused(LONE, (0,))
        self.refused(LONE, 1)

    def test_tuples_of_levels_by_the_words(self):
        forest = Forest((None, 0, 1, None, 3), (), ())
        right = plans_by_words(forest)
        tried = [(a, b, c, d, e) for a in range(3) for b in range(4) for c in range(5)
                 for d in range(3) for e in range(4)]
        for thing in tried:
            self.assertIs(is_plan(forest, thing), thing in right)

    def test_odd_things_in_each_place(self):
        for odd in odd_numbers():
            for thing in spoiled((1, 2, 1, 3), odd):
                self.refused(H, thing)


class StackTest(unittest.TestCase):

    def test_by_the_words(self):
        below = chance(6)
        for places in (1, 2, 3, 4):
            for forest in full_forests(places):
                for plan in plans_by_words(forest):
                    self.stacks_fit(forest, plan)
        for forest in (row(60), long_forest(below, 60), some_forest(below, 60)):
            self.stacks_fit(forest, some_plan(below, forest))

    def stacks_fit(self, forest, plan):
        for place, level in enumerate(plan):
            told = stack(forest, plan, place)
            self.assertIs(type(told), tuple)
            self.assertEqual(told, stack_by_words(forest, plan, place))
            self.assertEqual(len(told), level)
            self.assertEqual([s for s in way(forest, place) if s in told], list(told))

    def test_no_plan_ahead_of_no_place(self):
        plan = (1, 1, 2, 2)
        for thing in odd_numbers() + [4]:
            self.assertRaises(NoPlace, stack, H, plan, thing)
            self.assertRaises(NoPlan, stack, H, (1, 1, 2, 3), thing)
            self.assertRaises(NoPlan, stack, H, thing, -1)


class NotesOfTest(unittest.TestCase):

    def test_by_the_words_and_a_single_keeper(self):
        below = chance(7)
        for forest in small_forests(3):
            for plan in plans_by_words(forest):
                self.notes_fit(forest, plan)
        for forest in full_forests(5):
            for plan in plans_by_words(forest)[::3]:
                self.notes_fit(forest, plan)
        for forest in (MIXED, row(60), long_forest(below, 60), some_forest(below, 60), some_forest(below, 30)):
            for _ in range(3):
                self.notes_fit(forest, some_plan(below, forest))

    def notes_fit(self, forest, plan):
        told = notes_of(forest, plan)
        self.assertIs(type(told), tuple)
        self.assertEqual(told, notes_by_words(forest, plan))
        self.assertIs(is_single(forest, told), True)

    def test_without_those_of_an_empty_part(self):
        forest = Forest((None, 0, 1), (1,), (1,))
        self.assertEqual(notes_of(forest, (1, 2, 3)), (((1,), (1,)),))
        self.assertEqual(notes_of(forest, (1, 1, 1)), (((1,), (1,)),))
        self.assertEqual(notes_of(LONE, (1,)), ())
        self.assertEqual(notes_of(Forest((None,), (0,), ()), (1,)), ())
        self.assertEqual(notes_of(S, (1, 1)), (((0,), (0,)), ((0, 1), (1,))))
        self.assertEqual(notes_of(S, (1, 2)), (((0,), (0, 1)), ((1,), (1,))))


class KeptTest(unittest.TestCase):

    def test_nothing_passed_is_changed(self):
        for thing in ([1, 2], [0, 1], [[1], {0: [2]}], ([1], [2])):
            before = copy.deepcopy(thing)
            is_plan(S, thing)
            for function in (plan_of, cuts_of, notes_of):
                self.assertRaises((NoPlan, NoCuts), function, S, thing)
            self.assertRaises(NoPlan, stack, S, thing, thing)
            self.assertEqual(thing, before)
        self.assertIs(is_row(S), True)

    def test_odd_things_everywhere(self):
        for thing in odd_things():
            self.assertIs(is_plan(S, thing), False)


if __name__ == "__main__":
    unittest.main()
