"""[4.1], with [0.2] to [0.4] as far as they touch what lies under keepers."""

import copy
import unittest
from itertools import combinations

from cutnotes.errors import NoKeeper, NoNotes
from cutnotes.forests import Forest, row
from cutnotes.notes import is_keeper
from cutnotes.plans import notes_of
from cutnotes.unders import high, is_under, low, under_keeper
from common import (
    H, LONE, MIXED, S, all_notes, chance, full_forests, is_over, long_forest, notes_by_words, nowhere_greater,
    odd_things, pairs_by_words, plans_by_words, point_by_words, small_forests, some_forest, some_keeper, some_plan,
    spoiled)

KEEPER = [((0,), (0, 1)), ((1,), (1,))]


def high_by_words(forest, notes):
    everywhere = range(len(forest.parents))
    return tuple([s for s in everywhere if all(
        any(i in places and all(is_over(forest, s, j) for j in asks) for places, asks in notes)
        for i in forest.bearing if i != s and is_over(forest, i, s))])


def low_by_words(forest, notes):
    everywhere = range(len(forest.parents))
    return tuple([s for s in everywhere if all(
        any(j in asks and all(is_over(forest, i, s) for i in places) for places, asks in notes)
        for j in forest.asking if j != s and is_over(forest, s, j))])


class UndersTest(unittest.TestCase):

    def fits(self, forest, notes):
        for thing in (list(notes), tuple(notes)):
            highs, lows = high(forest, thing), low(forest, thing)
            self.assertEqual(highs, high_by_words(forest, notes))
            self.assertEqual(lows, low_by_words(forest, notes))
            self.assertEqual((type(highs), type(lows)), (tuple, tuple))
            plan = under_keeper(forest, thing)
            self.assertIs(type(plan), tuple)
            self.assertIs(is_under(forest, thing, plan), True)
        for s in highs:
            if not [child for child in highs if forest.parents[child] == s]:
                self.assertIn(s, lows)
        most = point_by_words(forest, notes)
        self.assertTrue(nowhere_greater(point_by_words(forest, notes_by_words(forest, plan)), most), (notes, plan))

    def test_all_keepers_of_tiny_forests(self):
        tried = 0
        for forest in small_forests(3):
            there = all_notes(forest)
            if len(there) > 9:
                continue
            for many in range(len(there) + 1):
                for notes in combinations(there, many):
                    if is_keeper(forest, notes):
                        self.fits(forest, notes)
                        tried += 1
        self.assertGreater(tried, 1000)

    def test_keepers_with_notes_twice(self):
        self.fits(S, KEEPER * 2)
        self.fits(S, KEEPER * 100)
        self.fits(S, [((0,), (0,)), ((0,), (1,)), ((0, 1), (1,)), ((0,), (0, 1)), ((0,), (1,))])
        self.fits(row(3), [((0,), (0, 1, 2)), ((0, 1), (1, 2)), ((0, 1, 2), (2,))])
        for forest in (LONE, Forest((None, 0), (), (0, 1)), Forest((None, None), (0,), (1,))):
            self.fits(forest, [])

    def test_overlapping_keepers_of_small_forests(self):
        below = chance(31)
        for forest in list(full_forests(4)) + [MIXED, H, row(5), row(7)]:
            for _ in range(6):
                notes = some_keeper(below, forest, 3 + below(20))
                self.fits(forest, notes)
                self.fits(forest, notes[::-1])

    def test_keepers_that_no_cuts_make(self):
        # For each ask one note of all places over it; for each place one of all asks under it.
        below = chance(32)
        for _ in range(60):
            forest = some_forest(below, 2 + below(10))
            served = pairs_by_words(forest)
            by_ask = {j: tuple([i for i, other in served if other == j]) for j in forest.asking}
            self.fits(forest, [(by_ask[j], (j,)) for j in by_ask if by_ask[j]])
            by_place = {i: tuple([j for other, j in served if other == i]) for i in forest.bearing}
            self.fits(forest, [((i,), by_place[i]) for i in by_place if by_place[i]])
            self.fits(forest, [((i,), (j,)) for i, j in served])

    def test_two_hundred_notes_of_sixty_places(self):
        below = chance(33)
        forests = [row(60), long_forest(below, 60), some_forest(below, 60), some_forest(below, 45),
                   Forest(row(60).parents, tuple(range(0, 60, 2)), tuple(range(1, 60, 3))),
                   Forest((None, 0, None) + tuple([below(place) for place in range(3, 60)]),
                          tuple(range(60)), tuple(range(60)))]
        for forest in forests:
            for many in (60, 120, 200):
                notes = some_keeper(below, forest, many)
                self.assertLessEqual(len(notes), 200)
                self.fits(forest, notes)
        self.assertEqual(len(some_keeper(below, row(60), 200)), 200)

    def test_no_notes_then_no_keeper(self):
        for function in (high, low, under_keeper):
            for lacking in ([], (), KEEPER[:1], KEEPER[1:], [((0,), (0,)), ((1,), (1,))]):
                self.assertRaises(NoKeeper, function, S, lacking)
            for thing in odd_things() + [KEEPER * 100 + KEEPER[:1], [((1,), (0,))], [KEEPER[0], ((0,), ())]]:
                if isinstance(thing, (list, tuple)) and len(thing) == 0:
                    continue
                self.assertRaises(NoNotes, function, S, thing)
            for odd in odd_things():
                for thing in spoiled(KEEPER[:1], odd) + spoiled(tuple(KEEPER), odd):
                    self.assertRaises(NoNotes, function, S, thing)

    def test_high_and_low_against_the_words(self):
        self.assertEqual(high(H, notes_of(H, (1, 1, 2, 2))), high_by_words(H, notes_of(H, (1, 1, 2, 2))))
        notes = [((0, 1), (3,)), ((1,), (1,)), ((0,), (0, 1, 2)), ((2,), (2,)), ((3,), (3,))]
        self.assertEqual(high(H, notes), (0, 1, 3))
        self.assertEqual(low(H, notes), (1, 2, 3))


class IsUnderTest(unittest.TestCase):

    def test_all_plans_and_keepers(self):
        below = chance(34)
        for forest in list(full_forests(3)) + [H, MIXED, row(4)]:
            for _ in range(8):
                notes = some_keeper(below, forest, below(9))
                if below(3) == 0:
                    notes = notes[1:]
                bounds = point_by_words(forest, notes)
                for plan in plans_by_words(forest):
                    right = nowhere_greater(point_by_words(forest, notes_by_words(forest, plan)), bounds)
                    self.assertIs(is_under(forest, notes, plan), right)
                    self.assertIs(is_under(forest, tuple(notes), plan), right)

    def test_notes_that_are_no_keeper(self):
        self.assertIs(is_under(S, [], (1, 1)), False)
        self.assertIs(is_under(LONE, [], (1,)), True)
        # No keeper, and yet it touches and reads as much as a plan.
        half = [((0,), (0,))] * 2 + [((1,), (1,))] * 2
        self.assertIs(is_keeper(S, half), False)
        self.assertIs(is_under(S, half, (1, 1)), True)
        self.assertIs(is_under(S, half, (1, 2)), True)
        self.assertIs(is_under(S, half[:3], (1, 1)), True)
        self.assertIs(is_under(S, half[1:], (1, 1)), False)

    def test_things_that_are_no_plans(self):
        wide = [((0,), (0, 1)), ((0, 1), (1,)), ((0,), (0,))] * 3
        self.assertIs(is_under(S, wide, (1, 2)), True)
        for thing in [(1, 3), (1,), (1, 1, 1), (2, 1), (0, 1), [1, 1], (1, True), (True, 1)] + odd_things():
            self.assertIs(is_under(S, wide, thing), False)
        for odd in odd_things():
            for thing in spoiled((1, 2), odd):
                self.assertIs(is_under(S, wide, thing), False)

    def test_no_notes(self):
        for odd in odd_things():
            for thing in spoiled(KEEPER, odd):
                self.assertRaises(NoNotes, is_under, S, thing, (1, 1))
                self.assertRaises(NoNotes, is_under, S, thing, odd)
        self.assertRaises(NoNotes, is_under, S, KEEPER * 101, (1, 1))


class KeptTest(unittest.TestCase):

    def test_nothing_passed_is_changed(self):
        for notes in (list(KEEPER), tuple(KEEPER), KEEPER * 3, [((0,), (0,))], [[[0], [1]], {0: [1]}]):
            before = copy.deepcopy(notes)
            for function in (high, low, under_keeper):
                try:
                    self.assertEqual(function(S, notes), function(S, copy.deepcopy(notes)))
                except (NoNotes, NoKeeper):
                    pass
            thing = [[1], [2]]
            try:
                is_under(S, notes, thing)
            except NoNotes:
                pass
            self.assertEqual((notes, thing), (before, [[1], [2]]))
        self.assertEqual(S, row(2))

    def test_results_are_those_of_some_plan(self):
        below = chance(35)
        for forest in (H, MIXED, row(6)):
            plan = some_plan(below, forest)
            self.assertIn(under_keeper(forest, notes_of(forest, plan)), plans_by_words(forest))


if __name__ == "__main__":
    unittest.main()
