"""[6.1], [6.3], [6.4], with [0.2] to [0.4] as far as they touch prices."""

import copy
import unittest
from fractions import Fraction

from cutnotes.counting import count_plans
from cutnotes.errors import NoNotes, NoPrices, TooMany
from cutnotes.forests import Forest, row
from cutnotes.plans import is_plan
from cutnotes.prices import cheapest, cheapest_keeping, corners, count_cheapest, least_price, price_of
from common import (
    H, LONE, MIXED, MOST, S, chance, costs_by_words, full_forests, long_forest, near_numbers, notes_by_words,
    odd_things, shapes, small_forests, some_forest, some_keeper, some_plan, some_prices, split_by_words, spoiled)

KEEPER = [((0,), (0, 1)), ((1,), (1,))]
ONES = ((1, 1), (1, 1))


def corners_by_words(splits):
    """Those pairs that are, for some fraction above 0, alone the least."""
    found = []
    for a, b in sorted(set(splits)):
        low, high, alone = Fraction(0), None, True
        for c, d in set(splits) - {(a, b)}:
            # a + b * f is below c + d * f.
            if b == d:
                alone = alone and a < c
            elif b > d:
                bound = Fraction(c - a, b - d)
                high = bound if high is None else min(high, bound)
            else:
                low = max(low, Fraction(a - c, d - b))
        if alone and (high is None or low < high):
            found.append((a, b))
    return found


class PricesTest(unittest.TestCase):

    def judged(self, forest, prices):
        told = costs_by_words(forest, prices)
        least = min(a + b for _, _, (a, b) in told)
        right = [plan for plan, _, (a, b) in told if a + b == least]
        self.assertEqual(least_price(forest, prices), least)
        self.assertEqual(cheapest(forest, prices), min(right))
        self.assertEqual(count_cheapest(forest, prices), len(right))
        found = corners(forest, prices)
        self.assertIs(type(found), list)
        self.assertEqual(found, corners_by_words([split for _, _, split in told]))
        return told, right

    def judged_keeping(self, below, forest, prices):
        told, right = self.judged(forest, prices)
        notes = some_keeper(below, forest, below(6))[below(3):]
        if below(2):
            notes += list(told[below(len(told))][1])
        return self.keeping_fits(forest, prices, told, right, notes)

    def keeping_fits(self, forest, prices, told, right, notes):
        best = None
        for plan, own, _ in told:
            if plan in right:
                kept = sum(any(places == other for other, _ in notes) for places, _ in own)
                if best is None or kept > best[0]:
                    best = (kept, plan)
        for given in (list(notes), tuple(notes), list(notes) * 2):
            self.assertEqual(cheapest_keeping(forest, prices, given), best[1])
        return best[1] != min(right)

    def test_kept_notes_never_outweigh_a_price(self):
        below = chance(86)
        tried = 0
        near_rows = [Forest(row(places).parents + (0,), tuple(range(places + 1)), tuple(range(places)))
                     for places in (4, 5, 6)]
        for forest in [row(5), row(6), row(7), long_forest(below, 6), H] + near_rows:
            many = len(forest.parents)
            for prices in [((1,) * many, (1,) * many), ((0,) * many, (1,) * many)] + [
                    tuple([tuple([below(2) for _ in range(many)]) for _ in range(2)]) for _ in range(6)]:
                told, right = self.judged(forest, prices)
                least = least_price(forest, prices)
                dearer = [own for _, own, (a, b) in told if a + b == least + 1]
                for notes in dearer[:20]:
                    self.keeping_fits(forest, prices, told, right, notes)
                    tried += 1
        self.assertGreater(tried, 100)

    def test_tiny_forests(self):
        below = chance(81)
        for forest in small_forests(3):
            for _ in range(4):
                self.judged_keeping(below, forest, some_prices(below, len(forest.parents)))

    def test_up_to_seven_places(self):
        below = chance(82)
        others = 0
        for places in (4, 5):
            for forest in full_forests(places):
                for _ in range(5):
                    others += self.judged_keeping(below, forest, some_prices(below, places))
        for parents in shapes(6):
            if below(6) == 0:
                some = some_forest(below, 6)
                for forest in (Forest(parents, some.bearing, some.asking),
                               Forest(parents, tuple(range(6)), tuple(range(6)))):
                    others += self.judged_keeping(below, forest, some_prices(below, 6))
        for _ in range(10):
            for forest in (some_forest(below, 7), long_forest(below, 7), row(7)):
                others += self.judged_keeping(below, forest, some_prices(below, 7))
        # Keeping notes makes a difference now and then.
        self.assertGreater(others, 20)

    def test_prices_of_zero_and_alike(self):
        for forest in list(full_forests(4)) + [row(6), MIXED, LONE]:
            many = len(forest.parents)
            for one, other in ((0, 0), (0, 1), (1, 0), (1, 1), (MOST, MOST), (1, MOST)):
                self.judged(forest, ((one,) * many, (other,) * many))
        self.assertEqual(count_cheapest(H, ((0,) * 4, (0,) * 4)), count_plans(H))
        self.assertEqual(cheapest(H, ((0,) * 4, (0,) * 4)), (1, 1, 1, 1))
        self.assertEqual(corners(H, ((0,) * 4, (0,) * 4)), [(0, 0)])

    def test_kinds(self):
        for number in (least_price(S, ONES), count_cheapest(S, ONES), price_of(S, ONES, KEEPER)):
            self.assertIs(type(number), int)
        for plan in (cheapest(S, ONES), cheapest_keeping(S, ONES, KEEPER)):
            self.assertIs(type(plan), tuple)
        for pair in corners(row(5), ((1,) * 5, (1,) * 5)):
            self.assertEqual([type(pair)] + [type(part) for part in pair], [tuple, int, int])

    def test_price_of(self):
        prices = ((1, 10), (100, 1000))
        self.assertEqual(price_of(S, prices, []), 0)
        self.assertEqual(price_of(S, prices, KEEPER), 1 + 1100 + 10 + 1000)
        self.assertEqual(price_of(S, prices, [((0, 1), (1,))]), 11 + 1000)
        self.assertEqual(price_of(S, prices, (((0,), (0,)),) * 200), 200 * 101)
        self.assertEqual(price_of(S, prices, [((0,), (0, 1)), ((0, 1), (1,))]), 1 + 1100 + 11 + 1000)
        self.assertEqual(price_of(S, prices, [((0,), (1,))]), 1001)
        below = chance(83)
        for forest in (H, MIXED, row(60), some_forest(below, 60), long_forest(below, 13)):
            for _ in range(5):
                prices = some_prices(below, len(forest.parents))
                notes = some_keeper(below, forest, below(100))[below(2):]
                self.assertEqual(price_of(forest, prices, notes), sum(split_by_words(prices, notes)))

    def test_long_rows(self):
        below = chance(84)
        for places in (13, 30, 60):
            forest = row(places)
            for prices in (some_prices(below, places), ((1,) * places, (1,) * places),
                           (tuple(range(places)), tuple(range(places, 0, -1)))):
                plan = cheapest(forest, prices)
                self.assertIs(is_plan(forest, plan), True)
                least = least_price(forest, prices)
                split = split_by_words(prices, notes_by_words(forest, plan))
                self.assertEqual(sum(split), least)
                many = count_cheapest(forest, prices)
                self.assertTrue(1 <= many <= count_plans(forest))
                for _ in range(5):
                    notes = notes_by_words(forest, some_plan(below, forest))
                    self.assertGreaterEqual(price_of(forest, prices, notes), least)
                self.assertGreaterEqual(price_of(forest, prices, some_keeper(below, forest, 100)), least)
                kept = cheapest_keeping(forest, prices, notes_by_words(forest, plan))
                self.assertEqual(kept, plan if many == 1 else kept)
                self.assertEqual(sum(split_by_words(prices, notes_by_words(forest, kept))), least)
                self.assertEqual(cheapest_keeping(forest, prices, []), plan)
        zeros = ((0,) * 60, (0,) * 60)
        self.assertEqual(count_cheapest(row(60), zeros), count_plans(row(60)))
        self.assertEqual(cheapest(row(60), zeros), (1,) * 60)

    def test_corners_of_long_rows(self):
        below = chance(85)
        for places in (13, 25):
            prices = some_prices(below, places)
            told = corners(row(places), prices)
            self.assertEqual(told, sorted(set(told)))
            self.assertEqual(told, corners_by_words(told))
            self.assertGreaterEqual(min(sum(pair) for pair in told), least_price(row(places), prices))
            for _ in range(100):
                a, b = split_by_words(prices, notes_by_words(row(places), some_plan(below, row(places))))
                for f in (Fraction(1, 7), Fraction(1), Fraction(9, 2)):
                    self.assertGreaterEqual(a + b * f, min(one + other * f for one, other in told))
            self.assertEqual(min(sum(pair) for pair in told), least_price(row(places), prices))

    def test_corners_of_a_line(self):
        # A root with children that all cost alike: all pairs lie on one line, its ends alone are corners.
        for leaves in (1, 2, 5, 11):
            everywhere = tuple(range(leaves + 1))
            star = Forest((None,) + (0,) * leaves, everywhere, everywhere)
            prices = ((3,) + (1,) * leaves, (5,) + (2,) * leaves)
            least = split_by_words(prices, notes_by_words(star, (1,) + (2,) * leaves))
            most = split_by_words(prices, notes_by_words(star, (1,) * (leaves + 1)))
            self.assertEqual(corners(star, prices), sorted([least, most]))

    def test_cheapest_keeping_by_hand(self):
        # Both plans of a row of two cost 5 for prices of 1.
        self.assertEqual(cheapest_keeping(S, ONES, [((0,), (0, 1)), ((1,), (1,))]), (1, 2))
        self.assertEqual(cheapest_keeping(S, ONES, [((1,), (1,))]), (1, 2))
        self.assertEqual(cheapest_keeping(S, ONES, [((0, 1), (1,))]), (1, 1))
        self.assertEqual(cheapest_keeping(S, ONES, [((0,), (1,))]), (1, 1))
        self.assertEqual(cheapest_keeping(S, ONES, []), (1, 1))
        # The price goes first, however many notes are kept.
        self.assertEqual(cheapest_keeping(S, ((1, 1), (1, 2)), [((1,), (1,))]), (1, 1))


class ErrorsTest(unittest.TestCase):

    def priced(self, forest, prices, notes=()):
        """All calls that take prices, those with notes last."""
        return [lambda: least_price(forest, prices), lambda: cheapest(forest, prices),
                lambda: count_cheapest(forest, prices), lambda: corners(forest, prices),
                lambda: price_of(forest, prices, notes), lambda: cheapest_keeping(forest, prices, notes)]

    def test_no_prices(self):
        for forest in (S, H, LONE, row(60), Forest((None,) * 60, (), ())):
            many = len(forest.parents)
            for thing in near_numbers(((0,) * many, (MOST,) * many), MOST):
                for call in self.priced(forest, thing):
                    self.assertRaises(NoPrices, call)
        for odd in odd_things():
            for thing in spoiled(((1, 2, 3, 4), (0, MOST, 0, 1)), odd):
                for call in self.priced(H, thing, odd):
                    self.assertRaises(NoPrices, call)

    def test_too_many(self):
        below = chance(86)
        for forest in (Forest((None,) * 13, (), ()), long_forest(below, 13), some_forest(below, 60),
                       Forest(row(13).parents, row(13).bearing, row(13).asking[1:])):
            many = len(forest.parents)
            right, wrong = ((1,) * many, (MOST,) * many), ((1,) * many, (MOST + 1,) * many)
            for call in self.priced(forest, right)[:4] + self.priced(forest, right)[5:]:
                with self.assertRaises(TooMany) as caught:
                    call()
                self.assertEqual(caught.exception.most, 12)
            self.assertEqual(price_of(forest, right, []), 0)
            for call in self.priced(forest, wrong, 5):
                self.assertRaises(NoPrices, call)
            self.assertRaises(NoNotes, cheapest_keeping, forest, right, [((0,), (1, 1))])
        for forest in (Forest((None,) * 12, (0,), (0,)), long_forest(below, 12), some_forest(below, 12), row(13)):
            many = len(forest.parents)
            for call in self.priced(forest, ((1,) * many, (MOST,) * many)):
                call()

    def test_no_notes(self):
        for thing in odd_things() + [KEEPER * 101, [((1,), (0,))], [((0,), ())], [KEEPER]]:
            for function in (price_of, cheapest_keeping):
                self.assertRaises(NoNotes, function, S, ONES, thing)
        for odd in odd_things():
            for thing in spoiled(KEEPER, odd):
                for function in (price_of, cheapest_keeping):
                    self.assertRaises(NoNotes, function, S, ONES, thing)
                    self.assertRaises(NoPrices, function, S, odd, thing)

    def test_nothing_passed_is_changed_and_lists_are_new(self):
        prices, notes = (tuple([1, 2]), tuple([3, 4])), [((0,), (0, 1))] * 2
        before = copy.deepcopy((prices, notes))
        for call in self.priced(S, prices, notes):
            self.assertEqual(call(), call())
        self.assertEqual((prices, notes), before)
        wrong = ([1, [2]], {0: [1]})
        for call in self.priced(S, wrong, wrong):
            self.assertRaises(NoPrices, call)
        self.assertEqual(wrong, ([1, [2]], {0: [1]}))
        first = corners(S, prices)
        kept = list(first)
        first.append("more")
        self.assertEqual(corners(S, prices), kept)
        self.assertEqual(S, row(2))


if __name__ == "__main__":
    unittest.main()
