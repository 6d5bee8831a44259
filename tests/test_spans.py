"""Rows laid out by spans: the answers are those of all pieces laid out one by one, as for other forests."""

import unittest

from cutnotes.floors import borne, floor, is_floor
from cutnotes.forests import Forest, row
from cutnotes.layouts import Layout
from cutnotes.plans import notes_of
from cutnotes.prices import cheapest, cheapest_keeping, corners, count_cheapest, least_price, price_of
from cutnotes.pricing import laid_out
from cutnotes.spans import Spans
from common import H, MOST, chance, split_by_words, some_keeper, some_prices


class SpansTest(unittest.TestCase):

    def compared(self, below, places, prices):
        """Compares what is told of a row with what all its pieces, laid out one by one, tell."""
        forest = row(places)
        layout = Layout(forest)
        self.assertEqual(least_price(forest, prices), layout.least_in_all(prices))
        self.assertEqual(cheapest(forest, prices), layout.least_plan(prices, {}))
        self.assertEqual(count_cheapest(forest, prices), layout.count_least(prices))
        told = floor(forest, prices)
        self.assertEqual(told, layout.least_costs(prices))
        notes = some_keeper(below, forest, 4)
        weight = places + 1
        weighed = tuple([tuple([weight * price for price in part]) for part in prices])
        self.assertEqual(cheapest_keeping(forest, prices, notes),
                         layout.least_plan(weighed, {kept: True for kept, _ in notes}))
        pieces = sorted(told)
        for _ in range(8 if places < 40 else 1):
            piece = pieces[below(len(pieces))]
            for number in (told[piece] + 1, told[piece] - below(9), told[piece] - MOST, -MOST):
                other = {**told, piece: number}
                right = layout.is_floor(prices, other)
                self.assertIs(is_floor(forest, prices, other), right)
                if right:
                    self.assertEqual(borne(forest, prices, other), other[tuple(range(places))])
        self.assertIs(is_floor(forest, prices, told), True)
        for more in ((places,), (), (0, places), tuple(range(places + 1)), (0, 2), "0", 0, None):
            self.assertIs(is_floor(forest, prices, {**told, more: 0}), False)
        del told[pieces[below(len(pieces))]]
        self.assertIs(is_floor(forest, prices, told), False)
        self.assertIs(is_floor(forest, prices, {**told, (places,): 0}), False)
        return layout

    def test_rows_of_some_places(self):
        below = chance(311)
        for places in list(range(1, 13)) * 3 + list(range(13, 25)) + [30, 36]:
            self.compared(below, places, some_prices(below, places))

    def test_rows_of_60_places(self):
        below = chance(312)
        for prices in (((3,) * 60, (5,) * 60), ((0,) * 60, (0,) * 60), some_prices(below, 60)):
            self.compared(below, 60, prices)

    def test_corners(self):
        below = chance(313)
        for places in list(range(1, 15)) * 2 + [24, 33]:
            self.corners_fit(places, some_prices(below, places), 1)
        # There are more than a hundred: some of them will do.
        self.corners_fit(60, ((3,) * 60, (5,) * 60), 7)

    def corners_fit(self, places, prices, apart):
        """Judges corners by the least costs that all pieces, laid out one by one, tell for some fractions."""
        layout = Layout(row(places))
        told = corners(row(places), prices)

        def least(changes_weight, asks_weight):
            return layout.least_in_all((tuple([changes_weight * price for price in prices[0]]),
                                        tuple([asks_weight * price for price in prices[1]])))
        # Each is alone the least for some fraction: from one to the next one it goes down, ever less steeply.
        steps = [(b[0] - a[0], a[1] - b[1]) for a, b in zip(told, told[1:])]
        self.assertTrue(all(right > 0 and down > 0 for right, down in steps))
        self.assertTrue(all(a[1] * b[0] > b[1] * a[0] for a, b in zip(steps, steps[1:])))
        # No plan is below the line from one to the next one, nor beyond the ends.
        for (one, other), (right, down) in list(zip(told, steps))[::apart]:
            self.assertEqual(least(down, right), down * one + right * other)
        above = 1 + places ** 2 * max(prices[0] + prices[1])
        self.assertEqual(least(above, 1), above * told[0][0] + told[0][1])
        self.assertEqual(least(1, above), told[-1][0] + above * told[-1][1])

    def test_60_places_by_what_is_known(self):
        # Whatever the prices of each place, these plans cost what the floor bears, which nothing goes below.
        below = chance(314)
        for _ in range(5):
            prices = some_prices(below, 60)
            forest = row(60)
            best = cheapest(forest, prices)
            least = least_price(forest, prices)
            self.assertEqual(price_of(forest, prices, notes_of(forest, best)), least)
            self.assertEqual(sum(split_by_words(prices, notes_of(forest, best))), least)
            self.assertEqual(borne(forest, prices, floor(forest, prices)), least)
            self.assertGreaterEqual(count_cheapest(forest, prices), 1)

    def test_which_forests_are_laid_out_by_spans(self):
        for forest in (row(1), row(2), row(60)):
            self.assertIs(type(laid_out(forest)), Spans)
        for forest in (H, Forest((None, 0), (0, 1), (0,)), Forest((None, None), (0, 1), (0, 1)),
                       Forest((None, 0, 1), (1, 2), (0, 1, 2))):
            self.assertIs(type(laid_out(forest)), Layout)


if __name__ == "__main__":
    unittest.main()
