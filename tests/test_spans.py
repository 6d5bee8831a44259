"""Rows laid out by spans: the answers are those of all pieces laid out one by one, as for other forests."""

import unittest

from cutnotes.floors import borne, floor, is_floor
from cutnotes.forests import Forest, row
from cutnotes.layouts import Layout
from cutnotes.plans import notes_of
from cutnotes.prices import cheapest, cheapest_keeping, corners, count_cheapest, least_price, price_of
from cutnotes.pricing import laid_out
from cutnotes.spans import Spans
from common import H, MOST, chance, split_by_words, some_keeper, some_prices


class SpansTest(unittest.TestCase):

    def compared(self, below, places, prices):
        """Compares what is told of a row with what all its pieces, laid out one by one, tell."""
        forest = row(places)
        layout = Layout(forest)
        self.assertEqual(least_price(forest, prices), layout.least_in_all(prices))
        self.assertEqual(cheapest(forest, prices), layout.least_plan(prices, {}))
        self.assertEqual(count_cheapest(forest, prices), layout.count_least(prices))
        told = floor(forest, prices)
        self.assertEqual(told, layout.least_costs(prices))
        notes = some_keeper(below, forest, 4)
        weight = places + 1
        weighed = tuple([tuple([weight * price for price in part]) for part in prices])
        self.assertEqual(cheapest_keeping(forest, prices, notes),
                         layout.least_plan(weighed, {kept: True for kept, _ in notes}))
        pieces = sorted(told)
        for _ in range(8 if places < 40 else 1):
            piece = pieces[below(len(pieces))]
            for number in (told[piece] + 1, told[piece] - below(9), told[piece] - MOST, -MOST):
                other = {**told, piece: number}
                right = layout.is_floor(prices, other)
                self.assertIs(is_floor(forest, prices, other), right)
                if right:
                    self.assertEqual(borne(forest, prices, other), other[tuple(range(places))])
        self.assertIs(is_floor(forest, prices, told), True)
        for more in ((places,), (), (0, places), tuple(range(places + 1)), (0, 2), "0", 0, None):
            self.assertIs(is_floor(forest, prices, {**told, more: 0}), False)
        del told[pieces[below(len(pieces))]]
        self.assertIs(is_floor(forest, prices, told), False)
        self.assertIs(is_floor(forest, prices, {**told, (places,): 0}), False)
        return layout

    def test_rows_of_some_places(self):
        below = chance(311)
        for places in list(range(1, 13)) * 3 + list(range(13, 25)) + [30, 36]:
            self.compared(below, places, some_prices(below, places))

    def test_rows_of_60_places(self):
        below = chance(312)
        for prices in (((3,) * 60, (5,) * 60), ((0,) * 60, (0,) * 60), some_prices(below, 60)):
            self.compared(below, 60, prices)

    def test_corners(self):
        below = chance(313)
        for places in list(range(1, 11)) * 2 + [14]:
            prices = some_prices(below, places)
            told = corners(row(places), prices)
            layout = Layout(row(places))
            # What is least for some fraction is a corner, alone or with others: by prices of whole numbers.
            for top, bottom in ((1, 1), (1, 2), (3, 1), (7, 5), (1, 9), (50, 1), (1, 10 ** 7), (10 ** 7, 1)):
                weighed = (tuple([bottom * price for price in prices[0]]), tuple([top * price for price in prices[1]]))
                self.assertEqual(min(bottom * one + top * other for one, other in told), layout.least_in_all(weighed))
            for (one, other), (later, less) in zip(told, told[1:]):
                self.assertTrue(one < later and other > less)

    def test_60_places_by_what_is_known(self):
        # Whatever the prices of each place, these plans cost what the floor bears, which nothing goes below.
        below = chance(314)
        for _ in range(5):
            prices = some_prices(below, 60)
            forest = row(60)
            best = cheapest(forest, prices)
            least = least_price(forest, prices)
            self.assertEqual(price_of(forest, prices, notes_of(forest, best)), least)
            self.assertEqual(sum(split_by_words(prices, notes_of(forest, best))), least)
            self.assertEqual(borne(forest, prices, floor(forest, prices)), least)
            self.assertGreaterEqual(count_cheapest(forest, prices), 1)

    def test_which_forests_are_laid_out_by_spans(self):
        for forest in (row(1), row(2), row(60)):
            self.assertIs(type(laid_out(forest)), Spans)
        for forest in (H, Forest((None, 0), (0, 1), (0,)), Forest((None, None), (0, 1), (0, 1)),
                       Forest((None, 0, 1), (1, 2), (0, 1, 2))):
            self.assertIs(type(laid_out(forest)), Layout)


if __name__ == "__main__":
    unittest.main()
