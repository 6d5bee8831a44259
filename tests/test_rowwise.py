"""[8.1], [8.2], with [0.2] to [0.4] as far as they touch what only rows have."""

import copy
import unittest
from itertools import product

from cutnotes.errors import NoKeeper, NoNotes, NoNumber, NoNumbers, NoRow
from cutnotes.forests import Forest, row
from cutnotes.plans import is_plan, notes_of
from cutnotes.rowwise import is_unbeatable, longest_row, plan_by_reads, plan_by_touches, weights
from common import (
    BIG, H, LONE, MIXED, S, all_notes, chance, lacking_by_words, nested, notes_by_words, nowhere_greater,
    odd_numbers, odd_things, plan_points, plans_by_words, point_by_words, some_keeper, some_plan, spoiled)

KEEPER = [((0,), (0, 1)), ((1,), (1,))]
NO_ROWS = [H, MIXED, Forest((None,), (), (0,)), Forest((None, None), (0, 1), (0, 1)),
           Forest((None, 0), (0, 1), (0,)), Forest((None, 0, 0), (0, 1, 2), (0, 1, 2)), LONE]


def binomials(many):
    """In how many ways none, one, two and so on of many can be taken, by adding."""
    line = [1]
    for _ in range(many):
        line = [a + b for a, b in zip(line + [0], [0] + line)]
    return line


def weights_by_words(places, counts):
    """The sum of [8.1] multiplied out, each power of (1 - x) by itself."""
    touches, reads = counts
    found = [0] * 500
    for gap in range(places + 1):
        left = touches[gap] if gap < places else 0
        right = reads[gap - 1] if gap else 0
        for some, many in enumerate(binomials(right)):
            found[left + some] += (-1) ** some * many
    while found and not found[-1]:
        found.pop()
    return tuple(found)


def value_at(numbers, top, bottom):
    """The polynomial at top / bottom, times bottom to its degree."""
    return sum(number * top ** at * bottom ** (len(numbers) - 1 - at) for at, number in enumerate(numbers))


class WeightsTest(unittest.TestCase):

    def fits(self, places, notes):
        forest = row(places)
        counts = point_by_words(forest, notes)
        for thing in (list(notes), tuple(notes)):
            told = weights(forest, thing)
            self.assertIs(type(told), tuple)
            self.assertEqual(told, weights_by_words(places, counts))
            self.assertIs(is_unbeatable(forest, thing), told == (1,))
        self.assertTrue(not told or told[-1] != 0)
        for top in range(8):
            self.assertLessEqual(value_at(told, top, 7), 7 ** max(0, len(told) - 1))
        return told

    def test_notes_of_each_plan(self):
        for places in range(1, 7):
            for plan in plans_by_words(row(places)):
                self.assertEqual(self.fits(places, notes_by_words(row(places), plan)), (1,))
        below = chance(201)
        for places in (7, 12, 31, 60):
            for _ in range(4):
                self.assertEqual(self.fits(places, notes_by_words(row(places), some_plan(below, row(places)))), (1,))

    def test_notes_of_plans_with_a_note_more(self):
        below = chance(202)
        for places in (2, 3, 5, 9, 12, 60):
            for _ in range(6):
                notes = list(notes_by_words(row(places), some_plan(below, row(places))))
                s = below(places)
                for more in (((s,), (s,)), ((0,), tuple(range(s, places))), (tuple(range(s + 1)), (s,))):
                    self.assertNotEqual(self.fits(places, notes + [more]), (1,))

    def test_overlapping_keepers(self):
        below = chance(203)
        for places in list(range(1, 13)) * 4 + [60, 60]:
            self.fits(places, some_keeper(below, row(places), places + below(30)))
        self.fits(1, [((0,), (0,))] * 200)
        self.fits(2, KEEPER * 100)
        self.fits(60, [((i,), tuple(range(i, 60))) for i in range(60)] * 3)

    def test_unbeatable_just_if_no_keeper_is_below(self):
        # All keepers without repeats of rows of up to three places; each is over a plan by the main fact.
        for places in (1, 2, 3):
            forest = row(places)
            there = all_notes(forest)
            points = [told for _, told in plan_points(forest)]
            below = chance(204)
            for some in product((False, True), repeat=len(there)) if places < 3 else [
                    [below(3) == 0 for _ in there] for _ in range(4000)]:
                notes = [note for note, taken in zip(there, some) if taken]
                if lacking_by_words(forest, notes) is not None:
                    continue
                told = point_by_words(forest, notes)
                self.assertIs(is_unbeatable(forest, notes), told in points)
                beaten = any(other != told and nowhere_greater(other, told) for other in points)
                self.assertIs(is_unbeatable(forest, notes), not beaten)

    def test_no_zeros_at_the_end(self):
        self.assertEqual(weights(S, KEEPER), (1,))
        self.assertEqual(weights(row(1), [((0,), (0,))] * 3), (1, -3, 3))
        # x ** 2 + x ** 2 (1 - x) ** 2 + (1 - x) ** 4: the power of 4 is there twice.
        self.assertEqual(weights(S, KEEPER * 2), (1, -4, 8, -6, 2))
        # x ** 2 + x ** 2 (1 - x) + (1 - x) ** 2.
        self.assertEqual(weights(S, [((0,), (0,)), ((0, 1), (1,)), ((1,), (1,))]), (1, -2, 3, -1))
        # x ** 2 + x (1 - x) ** 2 + (1 - x) ** 2: the power of 2 falls out between others.
        self.assertEqual(weights(S, [((0,), (0, 1)), ((1,), (1,)), ((0,), (0,))]), (1, -1, 0, 1))

    def test_no_row_no_notes_no_keeper(self):
        for function in (weights, is_unbeatable):
            for forest in NO_ROWS:
                for notes in (KEEPER, [], None, [((5,), (5,))]):
                    self.assertRaises(NoRow, function, forest, notes)
            for odd in odd_things():
                for thing in spoiled(KEEPER, odd) + spoiled(tuple(KEEPER), odd):
                    self.assertRaises(NoNotes, function, S, thing)
            self.assertRaises(NoNotes, function, S, [((0,), (0,))] * 201)
            self.assertRaises(NoNotes, function, row(3), [((0,), (0,)), ((1,), (0,))])
            for notes in ([], (), KEEPER[:1], [((0, 1), (1,)), ((1,), (1,))], [((0,), (0,))] * 200):
                self.assertRaises(NoKeeper, function, S, notes)

    def test_nothing_passed_is_changed(self):
        notes = list(KEEPER)
        weights(S, notes), is_unbeatable(S, notes)
        self.assertEqual(notes, KEEPER)


class LongestTest(unittest.TestCase):

    def test_by_adding(self):
        for touches in range(61):
            for reads in range(61):
                self.assertEqual(longest_row(touches, reads), binomials(touches + reads)[touches] - 1)
        self.assertEqual([longest_row(0, 0), longest_row(1, 0), longest_row(1, 1), longest_row(2, 2)], [0, 0, 1, 5])

    def test_against_all_plans_of_rows(self):
        for touches, reads in product(range(4), repeat=2):
            fit = [places for places in range(1, 7) if any(
                max(told[0]) <= touches and max(told[1]) <= reads for _, told in plan_points(row(places)))]
            self.assertEqual(min(6, longest_row(touches, reads)), max([0] + fit))

    def test_no_number(self):
        for thing in odd_numbers() + [61, -1, BIG, "1", (1,)]:
            self.assertRaises(NoNumber, longest_row, thing, 2)
            self.assertRaises(NoNumber, longest_row, 2, thing)
            self.assertRaises(NoNumber, longest_row, thing, thing)
        self.assertEqual(longest_row(60, 0), 0)
        self.assertEqual(longest_row(60, 1), 60)


class ByNumbersTest(unittest.TestCase):

    def test_each_plan_of_small_rows_and_all_other_numbers(self):
        for places in range(1, 6):
            forest = row(places)
            by_touches = {told[0]: plan for plan, told in plan_points(forest)}
            by_reads = {told[1]: plan for plan, told in plan_points(forest)}
            self.assertEqual(len(by_touches), len(plans_by_words(forest)))
            self.assertEqual(len(by_reads), len(plans_by_words(forest)))
            for numbers in product(range(places + 2), repeat=places):
                self.assertEqual(plan_by_touches(forest, numbers), by_touches.get(numbers))
                self.assertEqual(plan_by_reads(forest, numbers), by_reads.get(numbers))

    def test_rows_of_six_places(self):
        forest = row(6)
        right_touches = {told[0]: plan for plan, told in plan_points(forest)}
        right_reads = {told[1]: plan for plan, told in plan_points(forest)}
        for numbers in set(right_touches) | set(right_reads):
            for at in range(6):
                for number in (0, 1, 2, 3, 6, 7, 60):
                    tried = numbers[:at] + (number,) + numbers[at + 1:]
                    self.assertEqual(plan_by_touches(forest, tried), right_touches.get(tried))
                    self.assertEqual(plan_by_reads(forest, tried), right_reads.get(tried))

    def test_long_rows(self):
        below = chance(205)
        for places in (20, 60):
            forest = row(places)
            for plan in [(1,) * places, tuple(range(1, places + 1))] + [some_plan(below, forest) for _ in range(9)]:
                touches, reads = point_by_words(forest, notes_of(forest, plan))
                self.assertEqual(plan_by_touches(forest, touches), plan)
                self.assertEqual(plan_by_reads(forest, reads), plan)
                self.assertIs(type(plan_by_touches(forest, touches)), tuple)
                at = below(places)
                for numbers in (touches, reads):
                    more = numbers[:at] + (min(60, numbers[at] + 1),) + numbers[at + 1:]
                    for told in (plan_by_touches(forest, more), plan_by_reads(forest, more)):
                        self.assertTrue(told is None or is_plan(forest, told))
        self.assertIsNone(plan_by_reads(row(60), (60,) * 60))
        self.assertIsNone(plan_by_touches(row(60), (0,) * 60))

    def test_no_row_then_no_numbers(self):
        for function in (plan_by_reads, plan_by_touches):
            for forest in NO_ROWS:
                for thing in (None, (1,) * len(forest.parents), ()):
                    self.assertRaises(NoRow, function, forest, thing)
            for odd in odd_numbers() + [61]:
                for thing in spoiled((1, 1, 1), odd):
                    self.assertRaises(NoNumbers, function, row(3), thing)
            for thing in ((1, 1), (1, 1, 1, 1), [1, 1, 1], (1, 61, 1), (1, -1, 1), (1, True, 1), "111", range(3),
                          (1, 1, nested(39, "tuple")), {0: 1, 1: 1, 2: 1}, b"\x01\x01\x01", ()):
                self.assertRaises(NoNumbers, function, row(3), thing)

    def test_nothing_passed_is_changed(self):
        for thing in ([1, 1], ([1], [1])):
            before = copy.deepcopy(thing)
            for function in (plan_by_reads, plan_by_touches):
                self.assertRaises(NoNumbers, function, S, thing)
            self.assertEqual(thing, before)
        self.assertEqual(S, row(2))


if __name__ == "__main__":
    unittest.main()
