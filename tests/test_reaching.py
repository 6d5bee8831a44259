"""[5.3], with [0.2] to [0.4] as far as they touch reaches."""

import copy
import unittest

from cutnotes.budgets import plan_within
from cutnotes.errors import NoBudgets, NoRow
from cutnotes.forests import Forest, row
from cutnotes.reaching import is_reaches, reaches
from common import (
    BIG, H, LONE, MIXED, S, a_function, can_be_key, chance, near_numbers, nested, notes_by_words, odd_things,
    point_by_words, some_plan, spoiled)


def may_end(budgets, gap, lefts, rights):
    touches, reads = budgets
    return (gap == len(touches) or touches[gap] >= lefts) and (gap == 0 or reads[gap - 1] >= rights)


def is_reaches_by_words(budgets, thing):
    """By the words of [5.3]."""
    places = len(budgets[0])
    for key in thing:
        if not (type(key) is tuple and len(key) == 3 and all(type(part) is int and part >= 0 for part in key)
                and key[0] <= places and type(thing[key]) is int):
            return False
    if (0, 0, 0) not in thing:
        return False
    for (gap, lefts, rights), number in thing.items():
        if not may_end(budgets, gap, lefts, rights):
            right = number >= gap - 1
        elif gap == places:
            right = number >= places
        else:
            right = number >= gap and (gap, lefts + 1, rights) in thing
            if right and thing[(gap, lefts + 1, rights)] >= gap:
                part = thing[(gap, lefts + 1, rights)]
                right = number >= part
                if right and part < places:
                    right = (part + 1, lefts, rights + 1) in thing and number >= thing[(part + 1, lefts, rights + 1)]
        if not right:
            return False
    return True


def least_by_words(budgets, key, known):
    """What the number at a key must be at the least, whatever the numbers at the others are."""
    if key not in known:
        places = len(budgets[0])
        gap, lefts, rights = key
        if not may_end(budgets, *key):
            number = gap - 1
        elif gap == places:
            number = places
        else:
            found = []
            for part in range(least_by_words(budgets, (gap, lefts + 1, rights), known), places + 1):
                if part < gap:
                    found.append(gap)
                elif part == places:
                    found.append(part)
                else:
                    found.append(max(part, least_by_words(budgets, (part + 1, lefts, rights + 1), known)))
            number = min(found)
        known[key] = number
    return known[key]


def some_budgets(below, places):
    """Budgets of a row: now and then the point of a plan, or near it."""
    forest = row(places)
    if below(2):
        most = 1 + below(8)
        return tuple([tuple([below(most + 1) for _ in range(places)]) for _ in range(2)])
    at = point_by_words(forest, notes_by_words(forest, some_plan(below, forest)))
    return tuple([tuple([max(0, number + (below(9) == 0) - (below(30) == 0)) for number in part]) for part in at])


class ReachesTest(unittest.TestCase):

    def fits(self, budgets):
        places = len(budgets[0])
        forest = row(places)
        told = reaches(forest, budgets)
        self.assertIs(type(told), dict)
        self.assertTrue(is_reaches_by_words(budgets, told))
        self.assertIs(is_reaches(forest, budgets, told), True)
        self.assertEqual(told[(0, 0, 0)], least_by_words(budgets, (0, 0, 0), {}))
        self.assertIs(told[(0, 0, 0)] >= places, plan_within(forest, budgets) is not None)
        self.assertEqual(reaches(forest, budgets), told)
        return told

    def test_all_small_budgets(self):
        for places in (1, 2):
            numbers = [()]
            for _ in range(places):
                numbers = [told + (number,) for told in numbers for number in range(4)]
            for touches in numbers:
                for reads in numbers:
                    self.fits((touches, reads))

    def test_many_rows(self):
        below = chance(51)
        for places in list(range(1, 16)) + [30, 59, 60]:
            for _ in range(12 if places < 20 else 3):
                self.fits(some_budgets(below, places))
        for places in (1, 2, 30, 60):
            for number in (0, 1, 2, 5, 6, 59, 60):
                self.fits(((number,) * places, (number,) * places))
            self.fits(((60,) * places, (1,) * places))
            self.fits(((1,) * places, (60,) * places))
            self.fits(((0,) * places, (60,) * places))
            self.fits((tuple(range(places)), tuple(range(places))))

    def test_nothing_can_be_kept(self):
        told = self.fits(((0, 0), (0, 0)))
        self.assertEqual(told[(0, 0, 0)], 0)
        self.assertEqual(self.fits(((1,), (1,)))[(0, 0, 0)], 1)
        self.assertEqual(self.fits(((1,), (0,)))[(0, 0, 0)], 0)
        self.assertEqual(self.fits(((1, 0), (2, 2)))[(0, 0, 0)], 1)

    def test_results_are_new(self):
        first = reaches(S, ((1, 1), (1, 2)))
        before = dict(first)
        first.clear()
        self.assertEqual(reaches(S, ((1, 1), (1, 2))), before)


class IsReachesTest(unittest.TestCase):

    def judged(self, budgets, thing):
        right = is_reaches_by_words(budgets, thing)
        self.assertIs(is_reaches(row(len(budgets[0])), budgets, thing), right)
        return right

    def test_one_number_less(self):
        below = chance(52)
        for _ in range(150):
            budgets = some_budgets(below, 1 + below(8))
            told = reaches(row(len(budgets[0])), budgets)
            for key in told:
                # All these numbers are the least that can stand there.
                self.assertFalse(self.judged(budgets, {**told, key: told[key] - 1}))
                self.assertFalse(self.judged(budgets, {**told, key: -BIG}))

    def test_one_key_left_out(self):
        below = chance(53)
        for _ in range(150):
            budgets = some_budgets(below, 1 + below(8))
            told = reaches(row(len(budgets[0])), budgets)
            for key in told:
                self.judged(budgets, {other: told[other] for other in told if other != key})
        self.assertFalse(self.judged(budgets, {}))
        told = reaches(S, ((1, 1), (1, 2)))
        for key in told:
            self.assertFalse(self.judged(((1, 1), (1, 2)), {other: told[other] for other in told if other != key}))

    def test_greater_numbers_and_further_keys(self):
        below = chance(54)
        lets = 0
        for _ in range(200):
            budgets = some_budgets(below, 1 + below(6))
            places = len(budgets[0])
            told = reaches(row(places), budgets)
            for key in told:
                lets += self.judged(budgets, {**told, key: told[key] + 1 + below(3)})
                self.judged(budgets, {**told, key: BIG})
            for gap in range(places + 1):
                further = {(gap, 70, 70): gap - 1, (gap, BIG, 0): gap + 5}
                self.judged(budgets, {**told, **further})
                self.judged(budgets, {**told, (gap, 70, 70): gap - 2})
            self.assertTrue(self.judged(budgets, {**told, (places - 1, 61, 0): BIG, (0, 61, BIG): -1}))
            # All numbers as great as can be, at all keys there are: these are right.
            full = {(gap, lefts, rights): places for gap in range(places + 1)
                    for lefts in range(12) for rights in range(12)}
            full[(0, 0, 0)] = BIG
            if max(budgets[0] + budgets[1]) < 11:
                self.assertTrue(self.judged(budgets, full))
        self.assertGreater(lets, 100)

    def test_some_numbers_changed(self):
        below = chance(55)
        right = 0
        for _ in range(2000):
            budgets = some_budgets(below, 1 + below(4))
            told = reaches(row(len(budgets[0])), budgets)
            thing = {key: told[key] + below(4) - (below(6) == 0) for key in told}
            gap = below(len(budgets[0]) + 1)
            thing[(gap, below(4), below(4))] = gap + below(3) - 1
            right += self.judged(budgets, thing)
        self.assertGreater(right, 50)

    def test_keys_that_are_none(self):
        budgets = ((1, 1), (1, 2))
        told = reaches(S, budgets)
        for key in [(0, 0), (0, 0, 0, 0), (), 0, "000", b"\x00\x00\x00", (3, 0, 0), (BIG, 0, 0), (-1, 0, 0), (0, -1, 0),
                    (0, 0, -1), (0, 0, "0"), (0, None, 0), ((0, 0, 0),), (0, 0, (0,)), None, range(3), a_function,
                    int, nested(39, "tuple"), (0, 0, nested(38, "tuple"))]:
            self.assertIs(is_reaches(S, budgets, {**told, key: BIG}), False)
            self.assertIs(is_reaches(S, budgets, {key: BIG}), False)
        for odd in odd_things():
            # This one is such a key, of a gap that may not end there.
            if can_be_key(odd):
                self.assertIs(is_reaches(S, budgets, {**told, odd: 5}), odd == (0, BIG, BIG))
            for at in range(3):
                key = (2, 2, 2)[:at] + (odd,) + (2, 2, 2)[at + 1:]
                if can_be_key(key):
                    self.assertIs(is_reaches(S, budgets, {**told, key: 5}), False)

    def test_values_that_are_none(self):
        budgets = ((1, 1), (1, 2))
        told = reaches(S, budgets)
        further = {**told, (2, 9, 9): 1}
        self.assertIs(is_reaches(S, budgets, further), True)
        for odd in odd_things():
            for key in further:
                self.assertIs(is_reaches(S, budgets, {**further, key: odd}), False)

    def test_other_things(self):
        budgets = ((1, 1), (1, 2))
        told = reaches(S, budgets)
        for thing in odd_things() + [list(told.items()), tuple(told), [told], (told,), list(told)]:
            self.assertIs(is_reaches(S, budgets, thing), False)
        for odd in odd_things():
            for thing in spoiled({(0, 0, 0): 2}, odd):
                self.assertIs(is_reaches(S, budgets, thing), False)


class ErrorsTest(unittest.TestCase):

    def test_no_row_then_no_budgets(self):
        one_short = Forest((None, 0), (0, 1), (1,))
        for forest in (H, MIXED, LONE, one_short, Forest((None, None), (0, 1), (0, 1))):
            many = len(forest.parents)
            for budgets in (((1,) * many, (1,) * many), None, [], ((61,) * many, (0,) * many)):
                self.assertRaises(NoRow, reaches, forest, budgets)
                self.assertRaises(NoRow, is_reaches, forest, budgets, {})
        for places in (1, 2, 60):
            right = ((1,) * places, (60,) * places)
            for thing in near_numbers(right, 60):
                self.assertRaises(NoBudgets, reaches, row(places), thing)
                self.assertRaises(NoBudgets, is_reaches, row(places), thing, {})
        for odd in odd_things():
            for thing in spoiled(((1, 1, 2, 3), (1, 1, 2, 3)), odd):
                self.assertRaises(NoBudgets, reaches, row(4), thing)
                self.assertRaises(NoBudgets, is_reaches, row(4), thing, odd)

    def test_nothing_passed_is_changed(self):
        budgets = ((1, 1), (1, 2))
        for thing in (reaches(S, budgets), {(0, 0, 0): [1]}, [[0]], {0: {1: [2]}}):
            before = copy.deepcopy(thing)
            is_reaches(S, budgets, thing)
            self.assertEqual(thing, before)
        wrong = ([1, 1], [1, {2: 3}])
        self.assertRaises(NoBudgets, reaches, S, wrong)
        self.assertEqual(wrong, ([1, 1], [1, {2: 3}]))
        self.assertEqual((S, budgets), (row(2), ((1, 1), (1, 2))))


if __name__ == "__main__":
    unittest.main()
