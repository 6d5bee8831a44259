"""[12.1], [12.2], with [0.2] to [0.4] as far as they touch stores that are turned while they run."""

import unittest

from cutnotes.errors import NoAmounts, NoFlag, NoForest, NoNumber, NoPlace, NoPlan, TooMany
from cutnotes.forests import Forest, row
from cutnotes.stores import Store
from common import (
    BIG, H, LONE, MIXED, S, chance, long_forest, nested, odd_numbers, odd_things, some_forest, some_plan)
from storing import (
    KINDS, Adding, Book, Boom, agree, agree_on_asks, agree_on_news, begun_pair, some_changes, some_hang, some_turn)


def joined(one, other):
    return one + other


def watch_some(below, store, book):
    for place in book.forest.asking:
        if below(2) and place not in book.watched:
            store.watch(place)
            book.watched[place] = False


class HangTest(unittest.TestCase):

    def hung(self, store, book, parent, level, asks, amounts):
        number = store.hang(parent, level, asks, amounts)
        self.assertEqual(number, book.hang(parent, level, asks, amounts))
        return number

    def test_each_parent_and_level(self):
        below = chance(241)
        for forest in (H, S, MIXED, LONE, Forest((None, 0, 0, 2), (0,), (0, 1, 2, 3)), Forest((None, 0, 1), (), ())):
            for plan in [some_plan(below, forest) for _ in range(4)]:
                for parent in [None] + list(range(len(plan))):
                    for level in range(1, 2 if parent is None else plan[parent] + 2):
                        for asks in (False, True):
                            for amounts in ((), ("x",)):
                                self.hang_alike(below, forest, plan, (parent, level, asks, amounts))

    def hang_alike(self, below, forest, plan, place):
        amounts = tuple("abcdefgh"[:len(forest.bearing)])
        adding = Adding("text")
        store, book = Store(forest, plan, amounts, adding), Book(forest, plan, amounts)
        watch_some(below, store, book)
        if forest.bearing and below(2):
            store.change(forest.bearing[0], "y")
            book.change_all([(forest.bearing[0], "y")])
        self.hung(store, book, *place)
        agree(self, store, book, adding)
        agree_on_asks(self, store, book, adding)
        agree_on_news(self, store, book, adding)

    def test_from_one_place_to_60(self):
        below = chance(242)
        for kind in KINDS:
            adding = Adding(kind)
            store, book = begun_pair(self, below, LONE, adding)
            for many in range(1, 60):
                if below(3) == 0:
                    watch_some(below, store, book)
                if below(3) == 0:
                    changes = some_changes(below, book.forest, adding, book.amounts)
                    store.change_all(changes)
                    book.change_all(changes)
                self.assertEqual(self.hung(store, book, *some_hang(below, book, adding)), many)
                agree(self, store, book, adding)
                if many % 7 == 0:
                    agree_on_news(self, store, book, adding)
            agree_on_asks(self, store, book, adding)
            agree_on_news(self, store, book, adding)
            with self.assertRaises(TooMany) as caught:
                store.hang(0, 1, True, ())
            self.assertEqual(caught.exception.most, 60)
            agree(self, store, book, adding)

    def test_notes_that_stay_and_that_are_made_anew(self):
        store = Store(S, (1, 2), ("a", "b"), joined)
        self.assertEqual(store.hang(1, 3, True, ("c",)), 2)
        self.assertEqual((store.kept(), store.touched()), ({0: "a", 1: "b", 2: "c"}, 1))
        # A place that asks alone, at the level of a cut ahead of all: its note goes from the root on.
        self.assertEqual(store.hang(2, 1, True, ()), 3)
        self.assertEqual((store.kept(), store.touched()), ({0: "a", 1: "b", 2: "c", 3: "abc"}, 2))
        # Another one there holds the very same places: its note is not made anew.
        self.assertEqual(store.hang(2, 1, True, ()), 4)
        self.assertEqual((store.kept()[4], store.touched()), ("abc", 2))
        self.assertEqual(store.forest(), Forest((None, 0, 1, 2, 2), (0, 1, 2), (0, 1, 2, 3, 4)))
        self.assertEqual(store.plan(), (1, 2, 3, 1, 1))

    def test_what_is_watched_is_as_it_was(self):
        store = Store(S, (1, 2), ("a", "b"), joined)
        store.watch(0)
        store.watch(1)
        store.change(1, "x")
        store.hang(1, 1, True, ("c",))
        self.assertEqual(store.watched(), (0, 1))
        self.assertEqual(store.news(), [(1, "ax")])
        store.hang(None, 1, False, ())
        self.assertEqual(store.news(), [])

    def test_errors_in_their_order(self):
        store = Store(MIXED, (1,) * 6, ("a",) * 4, joined)
        book = Book(MIXED, (1,) * 6, ("a",) * 4)
        no_places = [thing for thing in odd_numbers() if thing is not None] + [6]
        no_flags = [thing for thing in odd_things() if type(thing) is not bool] + [0, 1]
        no_amounts = [thing for thing in odd_things() if not (type(thing) is tuple and len(thing) < 2)] + [("a", "b")]
        for thing in no_places:
            self.assertRaises(NoPlace, store.hang, thing, 1, True, ())
            self.assertRaises(NoPlace, store.hang, thing, 0, 0, [])
        for thing in odd_numbers() + [0, 3]:
            self.assertRaises(NoNumber, store.hang, 1, thing, True, ())
            self.assertRaises(NoNumber, store.hang, 1, thing, 1, [])
            self.assertRaises(NoNumber, store.hang, None, thing, True, ())
        self.assertRaises(NoNumber, store.hang, None, 2, 1, [])
        for thing in no_flags:
            self.assertRaises(NoFlag, store.hang, 1, 2, thing, ())
            self.assertRaises(NoFlag, store.hang, None, 1, thing, [])
        for thing in no_amounts:
            self.assertRaises(NoAmounts, store.hang, 1, 2, True, thing)
        agree(self, store, book, Adding("text"))

    def test_too_many_at_last(self):
        store = Store(row(60), (1,) * 60, ("a",) * 60, joined)
        for place, error in (((60, 1, True, ()), NoPlace), ((59, 3, True, ()), NoNumber), ((59, 1, 1, ()), NoFlag),
                             ((59, 1, True, []), NoAmounts), ((59, 2, True, ("a",)), TooMany),
                             ((None, 1, False, ()), TooMany)):
            self.assertRaises(error, store.hang, *place)
        self.assertEqual(store.forest(), row(60))
        store = Store(row(59), (1,) * 59, ("a",) * 59, joined)
        self.assertEqual(store.hang(58, 1, True, ("a",)), 59)
        self.assertEqual(store.ask(59), "a" * 60)

    def test_an_adding_that_raises(self):
        adding = Adding("text")
        store = Store(S, (1, 2), ("a", "b"), adding)
        store.watch(1)
        adding.left = 0
        self.assertRaises(Boom, store.hang, 1, 1, True, ("c",))
        adding.left = None
        agree_book = Book(S, (1, 2), ("a", "b"))
        agree_book.watched = {1: False}
        agree(self, store, agree_book, adding)
        self.assertEqual(store.hang(1, 1, True, ("c",)), 2)


class TurnTest(unittest.TestCase):

    def turned(self, store, book, forest, plan, amounts):
        before = dict(amounts)
        self.assertEqual(store.turn(forest, plan, amounts), book.turn(forest, plan, amounts))
        self.assertEqual(list(before), list(amounts))

    def test_turns_by_chance(self):
        below = chance(243)
        for kind in KINDS:
            for forest in (H, S, MIXED, LONE, row(7), long_forest(below, 10), some_forest(below, 14)):
                adding = Adding(kind)
                store, book = begun_pair(self, below, forest, adding)
                for _ in range(40):
                    watch_some(below, store, book)
                    if below(2):
                        changes = some_changes(below, book.forest, adding, book.amounts)
                        store.change_all(changes)
                        book.change_all(changes)
                    if below(3) == 0:
                        agree_on_news(self, store, book, adding)
                    self.turned(store, book, *some_turn(below, book, adding))
                    agree(self, store, book, adding)
                agree_on_asks(self, store, book, adding)
                agree_on_news(self, store, book, adding)

    def test_to_60_places(self):
        below = chance(244)
        for forest in (row(60), long_forest(below, 60), some_forest(below, 60)):
            adding = Adding("text")
            store, book = begun_pair(self, below, S, adding)
            plan = some_plan(below, forest)
            self.turned(store, book, forest, plan, {i: "x" for i in forest.bearing if i > 1})
            agree(self, store, book, adding)
            plan = some_plan(below, forest)
            self.turned(store, book, forest, plan, {})
            agree(self, store, book, adding)
            agree_on_asks(self, store, book, adding)

    def test_all_that_can_become_of_a_place(self):
        store = Store(H, (1, 1, 2, 2), ("a", "b", "c", "d"), joined)
        for place in (0, 1, 2, 3):
            store.watch(place)
        store.change(2, "x")
        store.news()
        # 1 no longer bears, 3 no longer asks and hangs at 2 now, 4 is new; the plan has other stacks.
        forest = Forest((None, 0, 0, 2, 2), (0, 2, 3, 4), (0, 1, 2, 4))
        self.assertEqual(store.turn(forest, (1, 2, 2, 3, 1), {4: "e"}), 1)
        self.assertEqual(store.kept(), {0: "a", 2: "x", 4: "axe"})
        self.assertEqual((store.watched(), store.touched()), ((0, 1, 2), 2))
        self.assertEqual(store.news(), [(0, "a"), (1, "a"), (2, "ax")])
        self.assertRaises(NoPlace, store.amount, 1)
        self.assertEqual(store.amount(3), "d")
        # What bears again does not have its amount of before.
        again = Forest((None, 0, 0, 2, 2), (0, 1, 2, 3, 4), (0, 1, 2, 3, 4))
        self.assertRaises(NoAmounts, store.turn, again, (1,) * 5, {})
        self.assertEqual(store.turn(again, (1, 2, 2, 3, 1), {1: "n"}), 2)
        self.assertEqual(store.kept(), {0: "a", 1: "n", 2: "x", 3: "d", 4: "axe"})

    def test_what_stays_and_what_is_made_anew(self):
        adding = Adding("text")
        store = Store(row(3), (1, 2, 3), ("a", "b", "c"), adding)
        self.assertEqual(store.turn(row(3), (1, 2, 3), {}), 0)
        self.assertEqual(store.turn(row(3), (1, 1, 1), {}), 2)
        self.assertEqual(store.kept(), {0: "a", 1: "ab", 2: "abc"})
        # The note (0, 1) stood at the place 1, now one of the same places stands at 1 and at 2, both stay.
        forest = Forest((None, 0, 1, 1), (0, 1), (1, 2, 3))
        self.assertEqual(store.turn(forest, (1, 1, 1, 1), {}), 0)
        self.assertEqual((store.kept(), store.touched()), ({1: "ab", 2: "ab", 3: "ab"}, 2))
        # Two notes of the very same places that no note had are made anew, both.
        forest = Forest((None, 0, 0, 0), (0,), (1, 2, 3))
        self.assertEqual(store.turn(forest, (1, 1, 1, 1), {}), 3)
        self.assertEqual((store.kept(), store.touched()), ({1: "a", 2: "a", 3: "a"}, 5))

    def test_watched_places_count_as_changed(self):
        store = Store(Forest((None, None), (0,), (0, 1)), (1, 1), ("a",), joined)
        store.watch(1)
        store.watch(0)
        self.assertEqual(store.turn(Forest((None, None), (0,), (0, 1)), (1, 1), {}), 0)
        self.assertEqual(store.news(), [(0, "a"), (1, None)])
        self.assertEqual(store.asked(), 1)
        store.turn(Forest((None, None), (0,), (1,)), (1, 1), {})
        self.assertEqual(store.watched(), (1,))
        store.turn(Forest((None, 0), (0,), (0, 1)), (1, 1), {})
        self.assertEqual(store.watched(), (1,))
        self.assertEqual(store.news(), [(1, "a")])

    def refused(self, error, *arguments):
        store = Store(H, (1, 1, 2, 2), ("a", "b", "c", "d"), joined)
        book = Book(H, (1, 1, 2, 2), ("a", "b", "c", "d"))
        store.watch(3)
        book.watched[3] = False
        self.assertRaises(error, store.turn, *arguments)
        agree(self, store, book, Adding("text"))
        self.assertEqual(store.news(), [])

    def test_errors_in_their_order(self):
        there = Forest((None, 0, 0, 1, 1), (0, 1, 3, 4), (0, 1, 2, 3))
        plan = (1, 1, 1, 1, 1)
        for thing in [thing for thing in odd_things() if thing != H] + [S, row(3), LONE, None]:
            self.refused(NoForest, thing, plan, {4: "e"})
            self.refused(NoForest, thing, None, None)
        for thing in odd_things() + [(1,) * 4, (1,) * 6, [1] * 5, (2, 1, 1, 1, 1), (1, 1, 1, 1, 0), (1, 3, 1, 1, 1)]:
            self.refused(NoPlan, there, thing, {4: "e"})
            self.refused(NoPlan, there, thing, [])
        wrong = [{}, {4: "e", 5: "f"}, {5: "f"}, {0: "a"}, {4: "e", 0: "a"}, {2: "c", 4: "e"}, [(4, "e")], ((4, "e"),),
                 {"4": "e"}, {(4,): "e"}, {None: "e"}, {-1: "e"}, {BIG: "e"}, (), None, nested(40, "dict"),
                 {b"4": 0}, {len: 0}, {nested(39, "tuple"): "e"}, {at: at for at in range(20000)}]
        for thing in wrong + [thing for thing in odd_things() if not isinstance(thing, dict)]:
            self.refused(NoAmounts, there, plan, thing)
        for thing in wrong[1:] + [{3: "x"}]:
            self.refused(NoAmounts, H, (1,) * 4, thing)

    def test_an_adding_that_raises(self):
        below = chance(245)
        raised = 0
        for kind in KINDS:
            for forest in (H, row(5), MIXED, long_forest(below, 9)):
                adding = Adding(kind)
                store, book = begun_pair(self, below, forest, adding)
                for _ in range(20):
                    watch_some(below, store, book)
                    turn = some_turn(below, book, adding)
                    hang = some_hang(below, book, adding)
                    deed = below(3)
                    adding.left = below(3)
                    try:
                        told = store.hang(*hang) if deed == 0 else store.turn(*turn)
                        self.assertEqual(told, book.hang(*hang) if deed == 0 else book.turn(*turn))
                    except Boom:
                        raised += 1
                    adding.left = None
                    agree(self, store, book, adding)
                    if below(3) == 0:
                        agree_on_news(self, store, book, adding)
        self.assertGreater(raised, 60)


if __name__ == "__main__":
    unittest.main()
