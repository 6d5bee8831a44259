"""[6.2], with [0.2] to [0.4] as far as they touch floors."""

import copy
import unittest

from cutnotes.errors import NoFloor, NoPrices, TooMany
from cutnotes.floors import borne, floor, is_floor
from cutnotes.forests import Forest, row
from cutnotes.prices import least_price
from common import (
    BIG, H, LONE, MIXED, MOST, S, a_function, can_be_key, chance, costs_by_words, cut_piece, full_forests, long_forest,
    near_numbers, nested, notes_by_words, odd_things, pieces_by_words, small_forests, some_forest, some_keeper,
    some_prices, split_by_words, spoiled, whole_pieces)

ONES = ((1, 1), (1, 1))


def is_floor_by_words(forest, prices, thing):
    if type(thing) is not dict or set(thing) != set(pieces_by_words(forest)):
        return False
    if not all(type(number) is int for number in thing.values()):
        return False
    for piece, number in thing.items():
        for s in piece:
            note, parts = cut_piece(forest, piece, s)
            if number > sum(split_by_words(prices, [note] if note else [])) + sum(thing[part] for part in parts):
                return False
    return True


class FloorTest(unittest.TestCase):

    def fits(self, forest, prices):
        told = floor(forest, prices)
        self.assertIs(type(told), dict)
        self.assertTrue(is_floor_by_words(forest, prices, told))
        self.assertIs(is_floor(forest, prices, told), True)
        bears = borne(forest, prices, told)
        self.assertEqual(bears, sum(told[piece] for piece in whole_pieces(forest)))
        self.assertEqual(bears, least_price(forest, prices))
        return told, bears

    def test_bears_the_least_cost_of_all_plans(self):
        below = chance(91)
        for forest in list(small_forests(2)) + [MIXED, H, LONE] + [row(places) for places in range(1, 8)]:
            for _ in range(4):
                prices = some_prices(below, len(forest.parents))
                _, bears = self.fits(forest, prices)
                self.assertEqual(bears, min(a + b for _, _, (a, b) in costs_by_words(forest, prices)))
        for places in (3, 4, 5):
            for forest in full_forests(places):
                prices = some_prices(below, places)
                _, bears = self.fits(forest, prices)
                self.assertEqual(bears, min(a + b for _, _, (a, b) in costs_by_words(forest, prices)))
        for _ in range(25):
            forest = some_forest(below, 3 + below(5))
            self.fits(forest, some_prices(below, len(forest.parents)))

    def test_no_keeper_costs_less_than_a_floor_bears(self):
        below = chance(92)
        for forest in (H, MIXED, row(5), long_forest(below, 7)):
            for _ in range(30):
                prices = some_prices(below, len(forest.parents))
                notes = some_keeper(below, forest, below(12))
                self.assertLessEqual(borne(forest, prices, floor(forest, prices)), sum(split_by_words(prices, notes)))

    def test_just_the_pieces_that_can_come(self):
        self.assertEqual(sorted(floor(H, ((1,) * 4, (1,) * 4))), [
            (0,), (0, 1), (0, 1, 2), (0, 1, 2, 3), (0, 1, 3), (0, 2), (1,), (1, 3), (2,), (3,)])
        for places in (1, 2, 5, 13, 60):
            told = floor(row(places), ((1,) * places, (2,) * places))
            self.assertEqual(sorted(told), sorted([tuple(range(first, last + 1)) for first in range(places)
                                                   for last in range(first, places)]))
        star = Forest((None,) + (0,) * 11, (0,), tuple(range(12)))
        self.assertEqual(len(floor(star, ((1,) * 12, (1,) * 12))), 2 ** 11 + 11)

    def test_long_rows(self):
        below = chance(93)
        for places in (13, 60):
            prices = some_prices(below, places)
            told = floor(row(places), prices)
            self.assertIs(is_floor(row(places), prices, told), True)
            self.assertEqual(borne(row(places), prices, told), least_price(row(places), prices))
            told[tuple(range(places))] += 1
            self.assertIs(is_floor(row(places), prices, told), False)

    def test_results_are_new(self):
        first = floor(S, ONES)
        before = dict(first)
        first.clear()
        self.assertEqual(floor(S, ONES), before)
        self.assertEqual(before, {(0,): 2, (1,): 2, (0, 1): 5})


class IsFloorTest(unittest.TestCase):

    def judged(self, forest, prices, thing):
        right = is_floor_by_words(forest, prices, thing)
        self.assertIs(is_floor(forest, prices, thing), right)
        if right:
            self.assertEqual(borne(forest, prices, thing), sum(thing[piece] for piece in whole_pieces(forest)))
        else:
            self.assertRaises(NoFloor, borne, forest, prices, thing)
        return right

    def some_floors(self, below):
        """Forests with prices and floors that bear most."""
        for forest in [H, MIXED, LONE, S, row(5)] + [some_forest(below, 2 + below(4)) for _ in range(15)]:
            prices = some_prices(below, len(forest.parents))
            yield forest, prices, floor(forest, prices)

    def test_greater_and_lesser_numbers(self):
        below = chance(94)
        for forest, prices, told in self.some_floors(below):
            for piece in told:
                # Each number is the greatest that the others let.
                self.assertFalse(self.judged(forest, prices, {**told, piece: told[piece] + 1}))
                self.assertFalse(self.judged(forest, prices, {**told, piece: BIG}))
                self.judged(forest, prices, {**told, piece: told[piece] - 1})
            self.assertTrue(self.judged(forest, prices, {piece: 0 for piece in told}))
            self.assertTrue(self.judged(forest, prices, {piece: -BIG * len(piece) for piece in told}))
            self.judged(forest, prices, {piece: told[piece] * len(piece) // 8 for piece in told})
            whole = whole_pieces(forest)[0]
            self.assertTrue(self.judged(forest, prices, {**told, whole: told[whole] - 1}))
            self.assertTrue(self.judged(forest, prices, {**told, whole: -BIG}))

    def test_numbers_by_chance(self):
        below = chance(95)
        right = 0
        for _ in range(20):
            for forest, prices, told in self.some_floors(below):
                thing = {piece: told[piece] - below(4) * below(4) + (below(30) == 0) for piece in told}
                right += self.judged(forest, prices, thing)
        self.assertGreater(right, 20)

    def test_a_key_left_out_or_more(self):
        below = chance(96)
        for forest, prices, told in self.some_floors(below):
            for piece in told:
                fewer = {other: told[other] for other in told if other != piece}
                self.assertFalse(self.judged(forest, prices, fewer))
                self.assertFalse(self.judged(forest, prices, {**fewer, piece + (60,): 0}))
                self.assertFalse(self.judged(forest, prices, {**fewer, (): 0}))
        told = floor(H, ((1,) * 4, (1,) * 4))
        for key in [(), (0, 3), (1, 2), (2, 3), (4,), (-1,), (0, 0), (1, 0), (0, 1, 2, 3, 4), 0, "0", b"0", None,
                    (None,), ("0",), ((0,),), a_function, range(1), (BIG,), nested(40, "tuple")]:
            for number in (0, -BIG):
                self.assertFalse(self.judged(H, ((1,) * 4, (1,) * 4), {**told, key: number}))
        for odd in odd_things():
            if can_be_key(odd):
                self.assertFalse(self.judged(H, ((1,) * 4, (1,) * 4), {**told, odd: 0}))
                thing = {**told, odd: 0}
                del thing[(0,)]
                self.assertFalse(self.judged(H, ((1,) * 4, (1,) * 4), thing))

    def test_numbers_that_are_none(self):
        zeros = {piece: 0 for piece in floor(S, ONES)}
        self.assertTrue(self.judged(S, ONES, zeros))
        for odd in odd_things():
            for thing in spoiled(zeros, odd):
                self.assertFalse(self.judged(S, ONES, thing))
        for flag in (True, False):
            self.assertFalse(self.judged(S, ONES, {**zeros, (0, 1): flag}))

    def test_other_things(self):
        told = floor(S, ONES)
        for thing in odd_things() + [[told], (told,), list(told.items()), list(told), tuple(told), {}]:
            self.assertFalse(self.judged(S, ONES, thing))


class ErrorsTest(unittest.TestCase):

    def calls(self, forest, prices, thing):
        return [lambda: floor(forest, prices), lambda: is_floor(forest, prices, thing),
                lambda: borne(forest, prices, thing)]

    def test_no_prices(self):
        for forest in (S, H, LONE, row(60), Forest((None,) * 60, (), ())):
            many = len(forest.parents)
            for wrong in near_numbers(((0,) * many, (MOST,) * many), MOST):
                for call in self.calls(forest, wrong, {}):
                    self.assertRaises(NoPrices, call)
        for odd in odd_things():
            for wrong in spoiled(((1, 2, 3, 4), (0, MOST, 0, 1)), odd):
                for call in self.calls(H, wrong, odd):
                    self.assertRaises(NoPrices, call)

    def test_too_many(self):
        below = chance(97)
        for forest in (Forest((None,) * 13, (), ()), long_forest(below, 13), some_forest(below, 60)):
            many = len(forest.parents)
            for thing in (None, {}, {(0,): 0}):
                for call in self.calls(forest, ((1,) * many, (MOST,) * many), thing):
                    with self.assertRaises(TooMany) as caught:
                        call()
                    self.assertEqual(caught.exception.most, 12)
                for call in self.calls(forest, ((1,) * many, (MOST + 1,) * many), thing):
                    self.assertRaises(NoPrices, call)
        for forest in (Forest((None,) * 12, (0,), (0,)), long_forest(below, 12), some_forest(below, 12), row(13)):
            many = len(forest.parents)
            prices = ((1,) * many, (MOST,) * many)
            self.assertIs(is_floor(forest, prices, floor(forest, prices)), True)
            self.assertIs(is_floor(forest, prices, {}), False)
            self.assertRaises(NoFloor, borne, forest, prices, {})

    def test_nothing_passed_is_changed(self):
        told = floor(S, ONES)
        for thing in (told, {**told, (0,): [1]}, {0: {1: [2]}}, [[1], (2,)]):
            before = copy.deepcopy(thing)
            is_floor(S, ONES, thing)
            try:
                borne(S, ONES, thing)
            except NoFloor:
                pass
            self.assertEqual(thing, before)
        wrong = ([1, [2]], {0: [1]})
        for call in self.calls(S, wrong, wrong):
            self.assertRaises(NoPrices, call)
        self.assertEqual(wrong, ([1, [2]], {0: [1]}))
        self.assertEqual(S, row(2))


if __name__ == "__main__":
    unittest.main()
