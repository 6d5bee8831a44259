"""[7.1], with [0.2] to [0.4] as far as they touch least points."""

import copy
import unittest

from cutnotes.errors import NoKeeper, NoNotes, TooMany
from cutnotes.forests import Forest, row
from cutnotes.points import beaten, least_points
from common import (
    H, LONE, MIXED, S, chance, full_forests, long_forest, notes_by_words, nowhere_greater, odd_things,
    plan_points, plans_by_words, point_by_words, small_forests, some_forest, some_keeper, spoiled)

KEEPER = [((0,), (0, 1)), ((1,), (1,))]


def star(leaves):
    everywhere = tuple(range(leaves + 1))
    return Forest((None,) + (0,) * leaves, everywhere, everywhere)


def least_by_words(forest):
    points = [at for _, at in plan_points(forest)]
    return sorted(set([at for at in points if not any(
        other != at and nowhere_greater(other, at) for other in points)]))


class PointsTest(unittest.TestCase):

    def test_against_all_plans(self):
        below = chance(71)
        for forest in list(small_forests(3)) + list(full_forests(4)) + list(full_forests(5)):
            self.fits(forest)
        for _ in range(40):
            self.fits(some_forest(below, 5 + below(2)))
        for forest in (H, S, MIXED, LONE, row(7), star(7)):
            self.fits(forest)

    def fits(self, forest):
        told = least_points(forest)
        self.assertIs(type(told), list)
        self.assertEqual(told, least_by_words(forest))
        for at in told:
            self.assertEqual([type(at), type(at[0]), type(at[1])], [tuple] * 3)

    def test_some_plans_are_beaten_and_points_are_told_once(self):
        # What bears nothing and asks nothing makes for many plans of one point.
        bare = Forest((None, 0, 1, 2), (), ())
        self.assertEqual(least_points(bare), [((0,) * 4, (0,) * 4)])
        only = Forest((None, 0, 1), (1,), (1,))
        self.assertEqual(least_points(only), [((0, 1, 0), (0, 1, 0))])
        # The root alone bears: one note for all asks of it, and so for each ask one read.
        root = Forest((None, 0, 0), (0,), (0, 1, 2))
        self.assertEqual(least_points(root), [((1, 0, 0), (1, 1, 1))])
        # In a row nothing is below a plan's point.
        self.assertEqual(least_points(row(6)), sorted([at for _, at in plan_points(row(6))]))

    def test_no_keeper_is_below(self):
        below = chance(72)
        for forest in (H, MIXED, row(4), some_forest(below, 5)):
            told = least_points(forest)
            for _ in range(60):
                at = point_by_words(forest, some_keeper(below, forest, below(8)))
                self.assertTrue(any(nowhere_greater(least, at) for least in told))
                self.assertFalse(any(least != at and nowhere_greater(at, least) for least in told))

    def test_just_two_thousand_and_more(self):
        just = Forest((None, 0, 1, None, 3, 4, None, 6, 7, None, 9, None, 11, None, 13, None, 15), (0, 3), (2, 5))
        self.assertEqual(least_points(just), least_by_words(just))
        self.assertEqual(len(least_points(star(10))), 1024)
        self.assertEqual(len(least_points(row(8))), 1430)
        for forest in (row(9), star(11), row(60), star(59)):
            with self.assertRaises(TooMany) as caught:
                least_points(forest)
            self.assertEqual(caught.exception.most, 2000)

    def test_lists_are_new(self):
        first = least_points(H)
        kept = list(first)
        first.append("more")
        self.assertEqual(least_points(H), kept)


class BeatenTest(unittest.TestCase):

    def judged(self, forest, notes):
        at = point_by_words(forest, notes)
        right = [plan for plan, other in plan_points(forest) if other != at and nowhere_greater(other, at)]
        for thing in (list(notes), tuple(notes)):
            told = beaten(forest, thing)
            if right:
                self.assertIs(type(told), tuple)
                self.assertIn(told, right)
            else:
                self.assertIsNone(told)
        return bool(right)

    def test_keepers_that_overlap(self):
        below = chance(73)
        beats = 0
        for forest in list(full_forests(3)) + list(full_forests(4)) + [H, MIXED, row(5), LONE]:
            for _ in range(6):
                beats += self.judged(forest, some_keeper(below, forest, below(9)))
        self.assertGreater(beats, 50)
        self.assertTrue(self.judged(S, KEEPER * 2))
        self.assertTrue(self.judged(S, [((0,), (0, 1)), ((0, 1), (1,))]))
        self.assertFalse(self.judged(LONE, []))

    def test_keepers_of_plans(self):
        below = chance(74)
        beats = 0
        for forest in list(small_forests(2)) + list(full_forests(4)) + [H, MIXED, some_forest(below, 6)]:
            for plan in plans_by_words(forest):
                beats += self.judged(forest, notes_by_words(forest, plan))
        for places in (1, 2, 3, 4, 5):
            for plan in plans_by_words(row(places)):
                self.assertFalse(self.judged(row(places), notes_by_words(row(places), plan)))
        # The root alone bears: who takes a child first touches it once more for that.
        root = Forest((None, 0, 0), (0,), (0, 1, 2))
        self.assertTrue(self.judged(root, notes_by_words(root, (1, 1, 2))))
        self.assertFalse(self.judged(root, notes_by_words(root, (1, 2, 2))))

    def test_many_plans(self):
        notes = notes_by_words(star(10), (1,) + (2,) * 10)
        self.assertIsNone(beaten(star(10), notes))
        self.assertTrue(self.judged(star(10), list(notes) + [((0,), (3,))]))
        for forest in (row(9), star(11), row(60), long_forest(chance(75), 60)):
            with self.assertRaises(TooMany) as caught:
                beaten(forest, notes_by_words(forest, (1,) * len(forest.parents)))
            self.assertEqual(caught.exception.most, 2000)

    def test_no_notes_then_no_keeper_then_too_many(self):
        for forest in (S, row(9), row(60)):
            for thing in odd_things() + [[((1,), (0,))], [((0,), ())], [((0,), (0,))] * 201, [KEEPER]]:
                self.assertRaises(NoNotes, beaten, forest, thing)
            for thing in ([], (), KEEPER[:1], [((0,), (0,)), ((1,), (1,))]):
                self.assertRaises(NoKeeper, beaten, forest, thing)
        for odd in odd_things():
            for thing in spoiled(KEEPER, odd):
                self.assertRaises(NoNotes, beaten, S, thing)

    def test_nothing_passed_is_changed(self):
        for notes in (list(KEEPER), KEEPER * 2, [((0,), (0,))], [[[0], [1]], {0: [1]}]):
            before = copy.deepcopy(notes)
            try:
                self.assertEqual(beaten(S, notes), beaten(S, copy.deepcopy(notes)))
            except (NoNotes, NoKeeper):
                pass
            self.assertEqual(notes, before)
        self.assertEqual(S, row(2))


if __name__ == "__main__":
    unittest.main()
