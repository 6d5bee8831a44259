"""[5.2], with [0.2] to [0.4] as far as they touch bars."""

import copy
import unittest

from cutnotes.bars import bar, is_bar
from cutnotes.budgets import plan_within
from cutnotes.errors import NoBudgets, TooMany
from cutnotes.forests import Forest, row
from common import (
    BIG, H, LONE, S, a_function, chance, cut_piece, full_forests, is_piece_by_words, long_forest,
    near_numbers, nested, notes_by_words, nowhere_greater, odd_things, plan_points, point_by_words,
    shapes, small_forests, some_forest, some_plan, spoiled, whole_pieces)

# A row of two places in which place 1 may not be touched.
BUDGETS = ((2, 0), (2, 2))


def is_lot(thing):
    return type(thing) is tuple and all(type(part) is int for part in thing) and list(thing) == sorted(set(thing))


def is_case_by_words(forest, thing):
    if type(thing) is not tuple or len(thing) != 3:
        return False
    piece = thing[0]
    if not is_lot(piece) or not all(0 <= place < len(forest.parents) for place in piece):
        return False
    return is_piece_by_words(forest, piece) and all(
        type(part) is tuple and len(part) == len(piece) and all(type(left) is int and left >= 0 for left in part)
        for part in thing[1:])


def right_reasons(forest, case, s):
    """All reasons against a cut at s that the words of [5.2] let, whatever the keys are."""
    piece, touches, reads = case
    touches, reads = dict(zip(piece, touches)), dict(zip(piece, reads))
    note, parts = cut_piece(forest, piece, s)
    places, asks = note or ((), ())
    used = [("touch", i) for i in places if touches[i] == 0] + [("read", j) for j in asks if reads[j] == 0]
    if used:
        return used
    return [("case", (part, tuple([touches[i] - (i in places) for i in part]),
                      tuple([reads[j] - (j in asks) for j in part]))) for part in parts]


def first_cases(forest, budgets):
    return [(piece, tuple([budgets[0][i] for i in piece]), tuple([budgets[1][j] for j in piece]))
            for piece in whole_pieces(forest)]


def same(one, other):
    """Whether things are equal, and of the same kinds all through."""
    if type(one) is not type(other):
        return False
    if isinstance(one, tuple):
        return len(one) == len(other) and all(same(a, b) for a, b in zip(one, other))
    return isinstance(one, (int, str)) and one == other


def is_bar_by_words(forest, budgets, thing):
    if type(thing) is not dict or not all(is_case_by_words(forest, case) for case in thing):
        return False
    for case, reasons in thing.items():
        if type(reasons) is not tuple or len(reasons) != len(case[0]):
            return False
        for s, reason in zip(case[0], reasons):
            right = [one for one in right_reasons(forest, case, s) if one[0] != "case" or one[1] in thing]
            if not any(same(reason, one) for one in right):
                return False
    return any(case in thing for case in first_cases(forest, budgets))


def near_budgets(below, forest):
    """Budgets at the point of a plan, by chance a few more or less at some places."""
    at = point_by_words(forest, notes_by_words(forest, some_plan(below, forest)))
    return tuple([tuple([max(0, number + (below(4) == 0) - (below(6) == 0)) for number in part]) for part in at])


class BarTest(unittest.TestCase):

    def judged(self, forest, budgets):
        """Just one of a plan and a bar is there; the bar is one."""
        told = bar(forest, budgets)
        self.assertIs(plan_within(forest, budgets) is None, told is not None)
        if told is not None:
            self.assertIs(type(told), dict)
            self.assertTrue(is_bar_by_words(forest, budgets, told))
            self.assertIs(is_bar(forest, budgets, told), True)
            self.assertEqual(bar(forest, copy.deepcopy(budgets)), told)
        return told

    def test_tiny_forests(self):
        below = chance(61)
        for forest in small_forests(2):
            for _ in range(12):
                self.judged(forest, tuple([tuple([below(3) for _ in forest.parents]) for _ in range(2)]))
        for forest in small_forests(3):
            for _ in range(3):
                self.judged(forest, near_budgets(below, forest))

    def test_against_all_plans(self):
        below = chance(62)
        for places in (3, 4):
            for forest in full_forests(places):
                points = plan_points(forest)
                for _ in range(8):
                    budgets = near_budgets(below, forest)
                    told = self.judged(forest, budgets)
                    self.assertIs(told is None, any(nowhere_greater(at, budgets) for _, at in points))

    def test_five_and_six_places(self):
        below = chance(63)
        bars = 0
        for parents in list(shapes(5)) + list(shapes(6)):
            if below(4):
                continue
            some = some_forest(below, len(parents))
            for forest in (Forest(parents, some.bearing, some.asking),
                           Forest(parents, tuple(range(len(parents))), tuple(range(len(parents))))):
                bars += self.judged(forest, near_budgets(below, forest)) is not None
        self.assertGreater(bars, 100)

    def test_rows_and_several_roots(self):
        below = chance(64)
        for places in range(1, 9):
            for _ in range(6):
                self.judged(row(places), near_budgets(below, row(places)))
        forest = Forest((None, None, 0, 1), (0, 1, 2, 3), (0, 1, 2, 3))
        self.assertIsNotNone(self.judged(forest, ((2, 0, 1, 1), (1, 1, 2, 2))))
        self.assertIsNotNone(self.judged(forest, ((2, 2, 0, 0), (2, 2, 2, 2))))
        self.assertIsNone(self.judged(forest, ((2, 2, 1, 1), (2, 2, 2, 2))))
        self.assertIsNone(self.judged(LONE, ((0,), (0,))))

    def test_what_nothing_is_left_of(self):
        self.assertEqual(self.judged(row(1), ((0,), (0,))) in (
            {((0,), (0,), (0,)): (("touch", 0),)}, {((0,), (0,), (0,)): (("read", 0),)}), True)
        told = self.judged(S, BUDGETS)
        self.assertEqual(told[((0, 1), (2, 0), (2, 2))], (("case", ((1,), (0,), (1,))), ("touch", 1)))

    def test_ten_and_eleven_places(self):
        below = chance(65)
        for forest in (row(10), long_forest(below, 10), some_forest(below, 10), Forest((None,) + (0,) * 9, (0,), (5,))):
            for _ in range(2):
                self.judged(forest, near_budgets(below, forest))
            self.judged(forest, ((60,) * 10, (60,) * 10))
            self.judged(forest, ((0,) * 10, (60,) * 10))
        for forest in (row(11), row(60), long_forest(below, 11), Forest((None,) * 11, (), ())):
            many = len(forest.parents)
            for number in (0, 60):
                with self.assertRaises(TooMany) as caught:
                    bar(forest, ((number,) * many, (60,) * many))
                self.assertEqual(caught.exception.most, 10)
            self.assertRaises(NoBudgets, bar, forest, ((61,) * many, (60,) * many))

    def test_is_bar_of_forests_of_many_places(self):
        for places in (11, 60):
            everywhere = tuple(range(places))
            budgets = ((0,) * places, (60,) * places)
            thing = {(everywhere,) + budgets: (("touch", 0),) * places}
            self.assertIs(is_bar(row(places), budgets, thing), True)
            wrong = {(everywhere,) + budgets: (("touch", 0),) * (places - 1) + (("touch", places),)}
            self.assertIs(is_bar(row(places), budgets, wrong), False)
        forest = Forest((None,) * 60, (3,), (3,))
        budgets = ((0,) * 60, (60,) * 60)
        self.assertIs(is_bar(forest, budgets, {((3,), (0,), (60,)): (("touch", 3),)}), True)
        self.assertIs(is_bar(forest, budgets, {((4,), (0,), (60,)): (("touch", 4),)}), False)


class IsBarTest(unittest.TestCase):

    def judged(self, forest, budgets, thing):
        right = is_bar_by_words(forest, budgets, thing)
        self.assertIs(is_bar(forest, budgets, thing), right, thing)
        return right

    def some_bars(self, below, many):
        """Forests, budgets and bars of these, by chance."""
        found = []
        while len(found) < many:
            forest = [some_forest, long_forest][below(2)](below, 2 + below(5))
            budgets = near_budgets(below, forest)
            told = bar(forest, budgets)
            if told is not None:
                found.append((forest, budgets, told))
        return found

    def test_other_right_reasons_and_further_keys(self):
        below = chance(66)
        others = 0
        for forest, budgets, told in self.some_bars(below, 60):
            more = {}
            for _ in range(3):
                more.update(bar(forest, near_budgets(below, forest)) or {})
            thing = {**more, **told}
            others += len(thing) > len(told)
            self.assertTrue(self.judged(forest, budgets, thing))
            for case in thing:
                found = []
                for s in case[0]:
                    right = [one for one in right_reasons(forest, case, s) if one[0] != "case" or one[1] in thing]
                    found.append(right[below(len(right))])
                thing[case] = tuple(found)
            self.assertTrue(self.judged(forest, budgets, thing))
            more.pop(first_cases(forest, budgets)[0], None)
            self.judged(forest, budgets, more)
        self.assertGreater(others, 20)

    def test_a_key_left_out(self):
        below = chance(67)
        for forest, budgets, told in self.some_bars(below, 60):
            for case in told:
                # Each key is the first one, or is named by a reason.
                self.assertFalse(self.judged(forest, budgets, {one: told[one] for one in told if one != case}))
        self.assertFalse(self.judged(S, BUDGETS, {}))

    def test_no_case_of_these_budgets(self):
        below = chance(68)
        for forest, budgets, told in self.some_bars(below, 60):
            wider = tuple([tuple([min(60, number + 1 + below(2)) for number in part]) for part in budgets])
            self.assertFalse(self.judged(forest, wider, told))
            for near in (near_budgets(below, forest), budgets):
                self.judged(forest, near, told)

    def test_a_number_of_a_key_changed(self):
        below = chance(69)
        for forest, budgets, told in self.some_bars(below, 40):
            for case in told:
                for part in (1, 2):
                    at = below(len(case[0]))
                    for by in (-1, 1):
                        numbers = list(case[part])
                        numbers[at] += by
                        other = case[:part] + (tuple(numbers),) + case[part + 1:]
                        thing = {(other if one == case else one): told[one] for one in told}
                        self.judged(forest, budgets, thing)
                        self.judged(forest, budgets, {**told, other: told[case]})

    def test_wrong_reasons(self):
        below = chance(70)
        for forest, budgets, told in self.some_bars(below, 40):
            for case in told:
                reasons = told[case]
                for thing in (reasons[:-1], reasons + reasons[-1:], (), list(reasons), reasons[0], None):
                    self.assertFalse(self.judged(forest, budgets, {**told, case: thing}))
                at = below(len(reasons))
                kind, named = reasons[at]
                wrong = [[kind, named], (kind,), (kind, named, named), (named, kind), kind, None,
                         ("cut", named), ("", named), (b"touch", named), (kind.upper(), named)]
                for place in range(-1, len(forest.parents) + 1):
                    wrong += [("touch", place), ("read", place), ("case", place), ("place", place)]
                wrong += [("touch", bool(case[0][0])), ("read", case), ("touch", case), ("case", [case]), ("touch", None)]
                wrong += [("case", other) for other in told] + [("case", first_cases(forest, budgets)[-1])]
                if kind == "case":
                    piece, touches, reads = named
                    wrong += [(kind, (list(piece), touches, reads)), (kind, (piece, list(touches), reads)),
                              (kind, [piece, touches, reads]), (kind, (piece, touches)), (kind, named + (0,)),
                              (kind, (piece, touches, reads[:-1])), (kind, (piece, tuple(map(bool, touches)), reads)),
                              (kind, (piece, tuple([left + 1 for left in touches]), reads))]
                for other in wrong:
                    self.judged(forest, budgets, {**told, case: reasons[:at] + (other,) + reasons[at + 1:]})

    def test_flags_are_no_numbers(self):
        told = bar(S, BUDGETS)
        first = ((0, 1), (2, 0), (2, 2))
        self.assertFalse(self.judged(S, BUDGETS, {**told, first: (told[first][0], ("touch", True))}))
        flagged = ("case", ((True,), (False,), (True,)))
        self.assertFalse(self.judged(S, BUDGETS, {**told, first: (flagged, told[first][1])}))

    def test_a_place_that_has_something_left(self):
        first = ((0, 1), (1, 0), (0, 2))
        right = {first: (("read", 0), ("touch", 1))}
        budgets = first[1:]
        self.assertTrue(self.judged(S, budgets, right))
        for reasons in ((("touch", 0), ("touch", 1)), (("read", 1), ("touch", 1)), (("read", 0), ("touch", 0)),
                        (("read", 0), ("read", 1)), (("touch", 1), ("touch", 1)), (("read", 0), ("read", 0))):
            self.assertFalse(self.judged(S, budgets, {first: reasons}))

    def test_a_cut_that_is_not_free_leads_nowhere(self):
        budgets = ((0, 0), (1, 2))
        first = ((0, 1), (0, 0), (1, 2))
        led = ((0,), (0,), (1,))
        right = {first: (("touch", 0), ("touch", 1)), led: (("touch", 0),)}
        self.assertTrue(self.judged(S, budgets, right))
        self.assertFalse(self.judged(S, budgets, {**right, first: (("touch", 0), ("case", led))}))
        # Without a note there is nothing to be used up: such a cut is free, whatever is left.
        forest = Forest((None, 0), (1,), (0, 1))
        first = ((0, 1), (5, 0), (0, 0))
        below = ((1,), (0,), (0,))
        right = {first: (("case", below), ("touch", 1)), below: (("read", 1),)}
        self.assertTrue(self.judged(forest, first[1:], right))
        self.assertFalse(self.judged(forest, first[1:], {**right, first: (("read", 0), ("touch", 1))}))
        self.assertFalse(self.judged(forest, first[1:], {**right, first: (("touch", 0), ("touch", 1))}))

    def test_keys_that_are_no_cases(self):
        told = bar(S, BUDGETS)
        for key in [((0,), (0,)), ((0,), (0,), (0,), (0,)), (), ((), (), ()), ((0, 2), (0, 0), (0, 0)), ((2,), (0,), (0,)),
                    ((1, 0), (0, 0), (0, 0)), ((0, 0), (0, 0), (0, 0)), ((0,), (-1,), (0,)), ((0,), (0,), (-1,)),
                    ((0, 1), (0,), (0, 0)), ((0, 1), (0, 0), (0,)), ((0,), (0, 0), (0,)), ((0,), (None,), (0,)),
                    ((-1,), (0,), (0,)), ((0,), ("0",), (0,)), (0, 0, 0), "000", None, 0, b"\x00", a_function, range(3),
                    nested(39, "tuple"), ((0,), (0,), nested(37, "tuple")), ((BIG,), (0,), (0,))]:
            for reasons in ((("touch", 0),), (("touch", 0), ("touch", 0)), (), (("read", 0),)):
                self.assertFalse(self.judged(S, BUDGETS, {**told, key: reasons}))
            # Not even where each is the reason of another one, or of its own.
            self.assertFalse(self.judged(S, BUDGETS, {**told, key: (("case", key),)}))
        forest = Forest((None, 0, 0, 1), (0, 1, 2, 3), (0, 1, 2, 3))
        budgets = ((0,) * 4, (0,) * 4)
        told = bar(forest, budgets)
        for piece in ((0, 3), (1, 2), (2, 3), (0, 2, 3)):
            none = (0,) * len(piece)
            thing = {**told, (piece, none, none): tuple([("touch", s) for s in piece])}
            self.assertFalse(self.judged(forest, budgets, thing))
        for piece in ((0, 1), (1, 3), (0, 1, 3), (0, 2), (2,), (0, 1, 2)):
            none = (0,) * len(piece)
            thing = {**told, (piece, none, none): tuple([("touch", s) for s in piece])}
            self.assertTrue(self.judged(forest, budgets, thing))
            great = (piece, none, (BIG,) * len(piece))
            self.assertTrue(self.judged(forest, budgets, {**told, great: tuple([("touch", s) for s in piece])}))

    def test_odd_things_everywhere(self):
        forest, budgets = S, BUDGETS
        told = bar(forest, budgets)
        for odd in odd_things():
            self.assertIs(is_bar(forest, budgets, odd), False)
            for thing in spoiled(told, odd):
                self.judged(forest, budgets, thing)
        for thing in ([told], (told,), list(told.items()), list(told), tuple(told), {0: told}):
            self.assertIs(is_bar(forest, budgets, thing), False)

    def test_no_budgets(self):
        told = bar(S, BUDGETS)
        for forest, right in ((S, BUDGETS), (H, ((1, 2, 3, 4), (0, 60, 0, 1))), (row(60), ((1,) * 60, (60,) * 60))):
            for thing in near_numbers(right, 60):
                self.assertRaises(NoBudgets, bar, forest, thing)
                self.assertRaises(NoBudgets, is_bar, forest, thing, told)
        for odd in odd_things():
            for thing in spoiled(((1, 2, 3, 4), (0, 60, 0, 1)), odd):
                self.assertRaises(NoBudgets, bar, H, thing)
                self.assertRaises(NoBudgets, is_bar, H, thing, odd)

    def test_nothing_passed_is_changed_and_results_are_new(self):
        told = bar(S, BUDGETS)
        before = copy.deepcopy(told)
        is_bar(S, BUDGETS, told)
        self.assertEqual(told, before)
        for thing in ({0: [1]}, [[1], {2: [3]}], {((0,), (0,), (0,)): [("touch", 0)]}):
            kept = copy.deepcopy(thing)
            is_bar(S, BUDGETS, thing)
            self.assertEqual(thing, kept)
        told.clear()
        self.assertEqual(bar(S, BUDGETS), before)
        self.assertEqual((S, BUDGETS), (row(2), ((2, 0), (2, 2))))


if __name__ == "__main__":
    unittest.main()
