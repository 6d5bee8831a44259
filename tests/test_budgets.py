"""[5.1], with [0.2] to [0.4] as far as they touch plans within budgets."""

import copy
import unittest

from cutnotes.budgets import plan_within
from cutnotes.errors import NoBudgets, TooMany
from cutnotes.forests import Forest, row
from cutnotes.plans import is_plan
from cutnotes.reaching import reaches
from common import (
    H, LONE, MIXED, S, chance, full_forests, long_forest, near_numbers, notes_by_words, nowhere_greater, odd_things,
    plan_points, point_by_words, shapes, small_forests, some_forest, some_plan, spoiled)

# Ten and eleven places with long ways and several children, and rows with one place that does not ask.
TEN = Forest((None, 0, 1, 1, 0, 4, 4, 6, 6, 2), tuple(range(10)), tuple(range(10)))
ELEVEN = Forest(TEN.parents + (9,), tuple(range(11)), tuple(range(11)))
NEARLY_ROW = Forest(row(10).parents, row(10).bearing, tuple(range(9)))


def one_changed(below, budgets, by):
    """Budgets with one number changed by so much, if it may be."""
    parts = [list(part) for part in budgets]
    part = parts[below(2)]
    at = below(len(part))
    part[at] = max(0, min(60, part[at] + by))
    return (tuple(parts[0]), tuple(parts[1]))


class WithinTest(unittest.TestCase):

    def judged(self, forest, budgets, points):
        """By all plans with their points: a plan is told just if one keeps the budgets."""
        told = plan_within(forest, budgets)
        keeping = [plan for plan, at in points if nowhere_greater(at, budgets)]
        if keeping:
            self.assertIs(type(told), tuple)
            self.assertIn(told, keeping)
        else:
            self.assertIs(told, None, budgets)
        return told

    def tried(self, below, forest, times):
        points = plan_points(forest)
        for _ in range(times):
            at = points[below(len(points))][1]
            self.assertIsNotNone(self.judged(forest, at, points))
            self.judged(forest, one_changed(below, at, -1), points)
            self.judged(forest, one_changed(below, at, 1), points)
            self.judged(forest, one_changed(below, one_changed(below, at, -1), 1), points)
            loose = tuple([tuple([below(4) for _ in forest.parents]) for _ in range(2)])
            self.judged(forest, loose, points)

    def test_all_budgets_of_tiny_forests(self):
        for forest in small_forests(2):
            points = plan_points(forest)
            many = len(forest.parents)
            numbers = [()]
            for _ in range(many):
                numbers = [told + (number,) for told in numbers for number in range(4)]
            for touches in numbers:
                for reads in numbers:
                    self.judged(forest, (touches, reads), points)

    def test_against_all_plans(self):
        below = chance(41)
        for forest in small_forests(3):
            self.tried(below, forest, 2)
        for places in (4, 5):
            for forest in full_forests(places):
                self.tried(below, forest, 4)
        for parents in shapes(6):
            if below(5) == 0:
                some = some_forest(below, 6)
                self.tried(below, Forest(parents, some.bearing, some.asking), 2)
                self.tried(below, Forest(parents, tuple(range(6)), tuple(range(6))), 2)
        for _ in range(12):
            self.tried(below, some_forest(below, 7), 2)
            self.tried(below, long_forest(below, 7), 2)
        for places in range(1, 8):
            self.tried(below, row(places), 12)

    def test_none_and_all(self):
        for forest in (H, S, row(5), MIXED, TEN, NEARLY_ROW):
            many = len(forest.parents)
            self.assertIs(is_plan(forest, plan_within(forest, ((60,) * many, (60,) * many))), True)
            self.assertIs(plan_within(forest, ((0,) * many, (0,) * many)), None)
        self.assertEqual(plan_within(LONE, ((0,), (0,))), (1,))
        nothing = Forest((None, 0, None, 2), (0, 1), (2, 3))
        self.assertIs(is_plan(nothing, plan_within(nothing, ((0,) * 4, (0,) * 4))), True)

    def test_rows_of_many_places(self):
        below = chance(42)
        for places in (8, 10, 11, 20, 37, 59, 60):
            forest = row(places)
            for _ in range(6):
                at = point_by_words(forest, notes_by_words(forest, some_plan(below, forest)))
                self.keeps(forest, at)
                self.keeps(forest, one_changed(below, at, 1))
                # In a row nothing is below the point of a plan: with one less nothing keeps it.
                less = one_changed(below, at, -1)
                self.assertIs(plan_within(forest, less), None)
                self.assertLess(reaches(forest, less)[(0, 0, 0)], places)
            for most in range(1, 10):
                # All alike: so many as there are ways to order the lefts and rights, less 1.
                alike = ((most // 2,) * places, (most - most // 2,) * places)
                longest = 1
                for step in range(1, most // 2 + 1):
                    longest = longest * (most - most // 2 + step) // step
                if places <= longest - 1:
                    self.keeps(forest, alike)
                else:
                    self.assertIs(plan_within(forest, alike), None)
            self.keeps(forest, ((60,) * places, (60,) * places))
            self.keeps(forest, ((1,) * places, (60,) * places))
            self.keeps(forest, ((60,) * places, (1,) * places))

    def keeps(self, forest, budgets):
        plan = plan_within(forest, budgets)
        self.assertIs(is_plan(forest, plan), True)
        self.assertTrue(nowhere_greater(point_by_words(forest, notes_by_words(forest, plan)), budgets))
        self.assertEqual(plan_within(forest, copy.deepcopy(budgets)), plan)
        self.assertGreaterEqual(reaches(forest, budgets)[(0, 0, 0)], len(forest.parents))

    def test_ten_and_eleven_places(self):
        below = chance(43)
        for forest in (TEN, NEARLY_ROW, some_forest(below, 10), some_forest(below, 10)):
            for _ in range(4):
                at = point_by_words(forest, notes_by_words(forest, some_plan(below, forest)))
                plan = plan_within(forest, at)
                self.assertTrue(nowhere_greater(point_by_words(forest, notes_by_words(forest, plan)), at))
        for forest in (ELEVEN, Forest(row(11).parents, (), ()), Forest((None,) * 11, (), ()), some_forest(below, 60)):
            many = len(forest.parents)
            with self.assertRaises(TooMany) as caught:
                plan_within(forest, ((60,) * many, (60,) * many))
            self.assertEqual(caught.exception.most, 10)
            self.assertRaises(NoBudgets, plan_within, forest, ((60,) * many, (61,) * many))
            self.assertRaises(NoBudgets, plan_within, forest, None)
        self.assertIs(plan_within(row(11), ((0,) * 11, (0,) * 11)), None)

    def test_no_budgets(self):
        for forest in (S, H, row(11), TEN, LONE):
            many = len(forest.parents)
            right = (tuple(range(many)), (60,) * many)
            plan_within(forest, right)
            for thing in near_numbers(right, 60):
                self.assertRaises(NoBudgets, plan_within, forest, thing)
        for odd in odd_things():
            for thing in spoiled(((1, 2, 3, 4), (1, 2, 1, 2)), odd):
                self.assertRaises(NoBudgets, plan_within, H, thing)
                self.assertRaises(NoBudgets, plan_within, row(4), thing)

    def test_nothing_passed_is_changed(self):
        for thing in (((1, 1), (1, 2)), [(1, 1), (1, 2)], ([1, 1], (1, 2)), {0: [1]}):
            before = copy.deepcopy(thing)
            try:
                plan_within(S, thing)
            except NoBudgets:
                pass
            self.assertEqual(thing, before)
        self.assertEqual(S, row(2))


if __name__ == "__main__":
    unittest.main()
