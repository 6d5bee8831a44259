"""[3.3], with [0.2] to [0.4] as far as they touch the counting of plans."""

import copy
import unittest

from cutnotes.counting import all_plans, count_plans, plan_at, plan_number
from cutnotes.errors import NoNumber, NoPlan, TooMany
from cutnotes.forests import Forest, row
from cutnotes.plans import is_plan
from common import (
    BIG, H, LONE, MIXED, S, chance, full_forests, long_forest, nested, odd_numbers, odd_things, plans_by_words,
    shapes, small_forests, some_forest, some_plan, spoiled)

# How many plans the rows of so many places have: what is known of ways to bracket.
ROW_PLANS = (1, 2, 5, 14, 42, 132, 429, 1430, 4862, 16796)


def star(leaves):
    return Forest((None,) + (0,) * leaves, (0,), tuple(range(leaves + 1)))


class CountingTest(unittest.TestCase):

    def test_against_all_tuples_of_levels(self):
        for places in range(1, 7):
            for forest in full_forests(places):
                self.numbered(forest, plans_by_words(forest))
        for forest in small_forests(3):
            self.assertEqual(all_plans(forest), plans_by_words(forest))

    def numbered(self, forest, plans):
        self.assertEqual(all_plans(forest), plans)
        self.assertEqual(count_plans(forest), len(plans))
        for number, plan in enumerate(plans):
            self.assertEqual(plan_at(forest, number), plan)
            self.assertEqual(plan_number(forest, plan), number)
        for number in (len(plans), len(plans) + 1, -1, -len(plans)):
            self.assertRaises(NoNumber, plan_at, forest, number)

    def test_kinds_and_order(self):
        self.assertIs(type(all_plans(H)), list)
        self.assertIs(type(count_plans(H)), int)
        self.assertIs(type(plan_number(H, (1, 1, 1, 1))), int)
        for plan in all_plans(H) + [plan_at(H, 3)]:
            self.assertIs(type(plan), tuple)
            self.assertTrue(all(type(level) is int for level in plan))
        self.assertEqual(all_plans(MIXED), sorted(set(all_plans(MIXED))))

    def test_some_forests_of_seven_places(self):
        below = chance(21)
        for parents in shapes(7):
            if below(40) == 0:
                forest = Forest(parents, (), (0, 6))
                self.numbered(forest, plans_by_words(forest))

    def test_known_counts(self):
        for places, many in enumerate(ROW_PLANS, 1):
            self.assertEqual(count_plans(row(places)), many)
        for leaves in (0, 1, 10, 59):
            self.assertEqual(count_plans(star(leaves)), 2 ** leaves)
        self.assertEqual(count_plans(Forest((None,) * 60, (), ())), 1)
        self.assertEqual(count_plans(LONE), 1)
        self.assertEqual(count_plans(row(60)), 1583850964596120042686772779038896)
        # Two roots: each plan of one stands beside each one of the other.
        self.assertEqual(count_plans(Forest((None, 0, None, 2, 3), (), ())), 2 * 5)

    def test_just_two_thousand_and_more(self):
        # 2000 is 5 * 5 * 5 * 2 * 2 * 2 * 2: three rows of 3 places and four of 2.
        just = Forest((None, 0, 1, None, 3, 4, None, 6, 7, None, 9, None, 11, None, 13, None, 15), (), ())
        self.assertEqual(count_plans(just), 2000)
        self.assertEqual(all_plans(just), plans_by_words(just))
        for forest in (just, row(8), star(10)):
            self.assertEqual(len(all_plans(forest)), count_plans(forest))
        more = Forest((None, 0, 1, None, 3, 4, None, 6, 7, None, 9, 10, None, 12, 13), (), ())
        self.assertEqual(count_plans(more), 3125)
        for forest in (more, row(9), row(60), star(11), star(59)):
            with self.assertRaises(TooMany) as caught:
                all_plans(forest)
            self.assertEqual(caught.exception.most, 2000)

    def test_sixty_places(self):
        below = chance(22)
        mixed = some_forest(below, 60)
        forests = [row(60), star(59), Forest((None,) * 60, (), ()), mixed, long_forest(below, 60),
                   Forest((None, 0) + tuple([place - 2 for place in range(2, 60)]), (), (5,))]
        for forest in forests:
            many = count_plans(forest)
            numbers = [0, many - 1, many // 2, many // 3] + [below(many) for _ in range(5)]
            if many > 2 ** 33:
                numbers += [many - 1 - below(2 ** 33), many * below(10 ** 6) // 10 ** 6]
            for number in numbers:
                plan = plan_at(forest, number)
                self.assertIs(is_plan(forest, plan), True)
                self.assertEqual(plan_number(forest, plan), number)
            self.assertEqual(plan_at(forest, 0), (1,) * 60)
            deepest = []
            for parent in forest.parents:
                deepest.append(1 if parent is None else deepest[parent] + 1)
            self.assertEqual(plan_at(forest, many - 1), tuple(deepest))
            for number in (-1, many, many + 1, BIG, -BIG):
                self.assertRaises(NoNumber, plan_at, forest, number)
            for _ in range(5):
                one, other = some_plan(below, forest), some_plan(below, forest)
                self.assertEqual(plan_at(forest, plan_number(forest, one)), one)
                self.assertEqual(plan_number(forest, one) < plan_number(forest, other), one < other)

    def test_no_number(self):
        for forest in (H, S, LONE, row(60)):
            for thing in odd_things() + [-1, (), [], (0,), nested(40, "list")]:
                self.assertRaises(NoNumber, plan_at, forest, thing)
        self.assertRaises(NoNumber, plan_at, S, 2)
        self.assertRaises(NoNumber, plan_at, LONE, 1)

    def test_no_plan(self):
        for thing in [(), (1, 1, 2), (1, 1, 2, 3), (2, 1, 1, 1), [1, 1, 1, 1], (1, 1, 1, 0), (1, True, 1, 1)]:
            self.assertRaises(NoPlan, plan_number, H, thing)
        for odd in odd_numbers():
            for thing in spoiled((1, 2, 1, 3), odd):
                self.assertRaises(NoPlan, plan_number, H, thing)

    def test_nothing_passed_is_changed_and_lists_are_new(self):
        for thing in ([1, 1], [[1], {0: [1]}]):
            before = copy.deepcopy(thing)
            self.assertRaises(NoPlan, plan_number, S, thing)
            self.assertRaises(NoNumber, plan_at, S, thing)
            self.assertEqual(thing, before)
        first = all_plans(H)
        first.append("more")
        self.assertEqual(all_plans(H), plans_by_words(H))
        self.assertEqual(S, row(2))


if __name__ == "__main__":
    unittest.main()
