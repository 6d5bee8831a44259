"""The examples of the document."""

import unittest

from cutnotes.budgets import plan_within
from cutnotes.counting import count_plans, plan_at
from cutnotes.forests import Forest, pairs, row, under, way
from cutnotes.notes import lacking, point
from cutnotes.plans import notes_of, plan_of, stack
from cutnotes.prices import cheapest, count_cheapest, least_price
from cutnotes.rowwise import longest_row, weights
from cutnotes.stores import Store
from cutnotes.tables import crossing
from cutnotes.texts import forest_text
from cutnotes.unders import high, low
from cutnotes.vaults import seen
from cutnotes.weaving import woven


class Examples(unittest.TestCase):

    def setUp(self):
        self.h = Forest((None, 0, 0, 1), (0, 1, 2, 3), (0, 1, 2, 3))
        self.r = row(3)
        self.s = row(2)

    def test_e01(self):
        self.assertEqual(way(self.h, 3), (0, 1, 3))
        self.assertEqual(under(self.h, 1), (1, 3))
        self.assertEqual(pairs(self.s), [(0, 0), (0, 1), (1, 1)])

    def test_e02(self):
        self.assertEqual(lacking(self.s, [((0,), (0, 1))]), (1, 1))
        self.assertEqual(point(self.s, [((0,), (0, 1)), ((1,), (1,))]), ((1, 1), (1, 2)))

    def test_e03(self):
        self.assertEqual(plan_of(self.h, (1, 0, 2, 3)), (1, 1, 2, 2))
        self.assertEqual(stack(self.h, (1, 1, 2, 2), 3), (1, 3))
        self.assertEqual(notes_of(self.h, (1, 1, 2, 2)),
                         (((0,), (0, 2)), ((0, 1), (1, 3)), ((2,), (2,)), ((3,), (3,))))

    def test_e04(self):
        self.assertEqual(count_plans(self.h), 10)
        self.assertEqual(count_plans(self.r), 5)
        self.assertEqual(plan_at(self.r, 2), (1, 2, 1))

    def test_e05(self):
        self.assertEqual(high(self.s, [((0,), (0, 1)), ((1,), (1,))]), (0,))
        self.assertEqual(low(self.s, [((0,), (0, 1)), ((1,), (1,))]), (0, 1))

    def test_e06(self):
        self.assertEqual(plan_within(self.r, ((1, 2, 1), (1, 2, 2))), (1, 2, 2))
        self.assertIsNone(plan_within(self.r, ((1, 1, 1), (1, 2, 2))))

    def test_e07(self):
        self.assertEqual(least_price(self.s, ((1, 1), (1, 1))), 5)
        self.assertEqual(cheapest(self.s, ((1, 1), (1, 1))), (1, 1))
        self.assertEqual(count_cheapest(self.s, ((1, 1), (1, 1))), 2)

    def test_e08(self):
        self.assertEqual(weights(self.s, [((0,), (0, 1)), ((1,), (1,))]), (1,))
        self.assertEqual(longest_row(2, 2), 5)

    def test_e09(self):
        self.assertEqual(crossing(((0, 1), (1, 2))), (0, 1))

    def test_e10(self):
        self.assertEqual(Store(self.s, (1, 2), ("a", "b"), lambda one, other: one + other).ask(1), "ab")

    def test_e11(self):
        self.assertEqual(seen(self.s, (1, 1), 0, 1), (1,))
        told = woven(self.s, (1, 1), ("a", "b"), lambda one, other: one + other,
                     [("change", 0, "c"), ("ask", 1)], [0, 1, 0])
        self.assertEqual(told, (("change", 0, 0, "c"), ("ask", 1, 1), ("told", 1, "cb"), ("done", 0)))

    def test_e12(self):
        self.assertEqual(forest_text(self.h), "- b a\n0 b a\n0 b a\n1 b a\n")


if __name__ == "__main__":
    unittest.main()
