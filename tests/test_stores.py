"""[11.1], with [0.2] to [0.4] as far as they touch stores that run."""

import copy
import unittest

from cutnotes.errors import NoAmounts, NoChanges, NoPlace, NoPlan
from cutnotes.forests import Forest, row
from cutnotes.stores import Store
from common import (
    BIG, H, LONE, MIXED, S, chance, full_forests, long_forest, nested, odd_numbers, odd_things, plans_by_words,
    some_forest, some_plan, spoiled)
from storing import (
    KINDS, Adding, Book, Boom, agree, agree_on_asks, agree_on_news, are_changes, begun_pair, some_changes)


def joined(one, other):
    return one + other


class StoreTest(unittest.TestCase):

    def some_forests(self, below):
        return [H, S, MIXED, LONE, row(6), long_forest(below, 9), some_forest(below, 7), some_forest(below, 12),
                Forest((None, 0, 0, 0), (0,), (1, 2, 3)), Forest((None, 0, 1, 1), (2,), (0, 1, 2, 3)),
                Forest((None, 0), (0, 1), ()), Forest((None, 0), (), (0, 1))]

    def test_long_lives(self):
        below = chance(231)
        for kind in KINDS:
            for forest in self.some_forests(below):
                adding = Adding(kind)
                store, book = begun_pair(self, below, forest, adding)
                for _ in range(150):
                    self.step(below, store, book, adding)
                    agree(self, store, book, adding)
                agree_on_asks(self, store, book, adding)
                agree_on_news(self, store, book, adding)

    def step(self, below, store, book, adding):
        """Something that is done to a store and to an account of it."""
        forest = book.forest
        deed = below(8)
        if deed in (0, 1) and forest.bearing:
            place = forest.bearing[below(len(forest.bearing))]
            amount = book.amounts[place] if below(4) == 0 else adding.atom(below)
            self.assertIsNone(store.change(place, amount))
            book.change_all([(place, amount)])
        if deed == 2:
            changes = some_changes(below, forest, adding, book.amounts)
            before = copy.copy(changes)
            self.assertIsNone(store.change_all(changes))
            self.assertEqual(changes, before)
            book.change_all(changes)
        if deed in (3, 4) and forest.asking:
            place = forest.asking[below(len(forest.asking))]
            self.assertTrue(adding.is_right(store.ask(place), book.over(place)))
            book.asked += book.read_by(place)
        if deed in (5, 6) and forest.asking:
            place = forest.asking[below(len(forest.asking))]
            do, other = (store.unwatch, store.watch) if place in book.watched else (store.watch, store.unwatch)
            self.assertRaises(NoPlace, other, place)
            self.assertIsNone(do(place))
            if place in book.watched:
                del book.watched[place]
            else:
                book.watched[place] = False
        if deed == 7:
            agree_on_news(self, store, book, adding)

    def test_each_plan_of_small_forests(self):
        below = chance(232)
        for forest in list(full_forests(3)) + [Forest(f.parents, (0, 2), (1, 3)) for f in full_forests(4)]:
            for plan in plans_by_words(forest):
                adding = Adding("text")
                amounts = tuple("pqrs"[:len(forest.bearing)])
                store, book = Store(forest, plan, amounts, adding), Book(forest, plan, amounts)
                agree(self, store, book, adding)
                agree_on_asks(self, store, book, adding)
                for place in forest.bearing:
                    store.change(place, "x")
                    book.change_all([(place, "x")])
                    agree(self, store, book, adding)
                changes = some_changes(below, forest, adding, book.amounts)
                store.change_all(changes)
                book.change_all(changes)
                agree(self, store, book, adding)
                agree_on_asks(self, store, book, adding)

    def test_large_stores(self):
        below = chance(233)
        for forest in (row(60), long_forest(below, 60), some_forest(below, 60)):
            for kind in ("text", "any"):
                adding = Adding(kind)
                store, book = begun_pair(self, below, forest, adding)
                for _ in range(6):
                    self.step(below, store, book, adding)
                changes = [(place, adding.atom(below)) for place in forest.bearing]
                store.change_all(changes)
                book.change_all(changes)
                agree(self, store, book, adding)
                agree_on_asks(self, store, book, adding)

    def test_notes_with_the_very_same_places_count_each(self):
        # Both leaves are cut ahead of their parent: they have a note of the place 0 alone each.
        forest = Forest((None, 0, 0), (0,), (1, 2))
        store = Store(forest, (1, 1, 1), (5,), max)
        self.assertEqual(store.kept(), {1: 5, 2: 5})
        store.change(0, 7)
        self.assertEqual((store.kept(), store.touched(), store.asked()), ({1: 7, 2: 7}, 2, 0))
        store.change_all([(0, 8)])
        self.assertEqual(store.touched(), 4)
        store.watch(1)
        store.watch(2)
        store.change(0, 8)
        self.assertEqual(store.news(), [(1, 8), (2, 8)])
        self.assertEqual((store.touched(), store.asked()), (6, 2))

    def test_all_put_together_at_the_change(self):
        adding = Adding("text")
        store = Store(row(3), (1, 1, 1), ("a", "b", "c"), adding)
        store.change(0, "x")
        before = adding.calls
        self.assertEqual(store.kept(), {0: "x", 1: "xb", 2: "xbc"})
        self.assertEqual(store.ask(2), "xbc")
        self.assertEqual(adding.calls, before)
        store.change(0, "x")
        self.assertGreater(adding.calls, before)

    def test_what_is_told_is_new_each_time(self):
        store = Store(S, (1, 1), ("a", "b"), joined)
        kept = store.kept()
        kept.clear()
        self.assertEqual(store.kept(), {0: "a", 1: "ab"})
        store.watch(1)
        store.change(0, "c")
        told = store.news()
        told.clear()
        self.assertEqual(store.news(), [])
        store.change(0, "d")
        self.assertEqual(store.news(), [(1, "db")])
        self.assertEqual([type(store.watched()), type(store.plan())], [tuple, tuple])

    def test_watched_over_which_nothing_was_changed(self):
        store = Store(H, (1, 2, 2, 3), ("a", "b", "c", "d"), joined)
        for place in (0, 2, 3):
            store.watch(place)
        store.change(1, "x")
        self.assertEqual(store.news(), [(3, "axd")])
        self.assertEqual(store.news(), [])
        store.change_all([(2, "c"), (3, "d")])
        self.assertEqual(store.news(), [(2, "ac"), (3, "axd")])
        store.change(0, "y")
        store.unwatch(0)
        store.unwatch(2)
        store.watch(2)
        self.assertEqual(store.news(), [(3, "yxd")])
        store.change_all([])
        self.assertEqual(store.news(), [])

    def test_places_over_which_nothing_bears(self):
        forest = Forest((None, 0, None), (1,), (0, 1, 2))
        store = Store(forest, (1, 2, 1), (None,), joined)
        self.assertIsNone(store.ask(0))
        self.assertEqual(store.asked(), 0)
        self.assertIsNone(store.ask(1))
        self.assertEqual(store.asked(), 1)
        self.assertEqual(store.kept(), {1: None})
        store.change(1, [])
        self.assertEqual(store.ask(1), [])
        self.assertIsNone(store.ask(2))

    def test_an_adding_that_raises(self):
        below = chance(234)
        raised = 0
        for kind in KINDS:
            for forest in self.some_forests(below) * 3:
                adding = Adding(kind)
                store, book = begun_pair(self, below, forest, adding)
                for place in forest.asking[::2]:
                    store.watch(place)
                    book.watched[place] = False
                for _ in range(12):
                    raised += self.step_or_boom(below, store, book, adding)
                    agree(self, store, book, adding)
                agree_on_news(self, store, book, adding)
        self.assertGreater(raised, 60)

    def step_or_boom(self, below, store, book, adding):
        """A deed in which adding raises an error, mostly: then nothing comes of it."""
        changes = some_changes(below, book.forest, adding, book.amounts)
        deed = below(4)
        asked = [place for place in book.forest.asking]
        adding.left = below(3)
        try:
            if deed == 0:
                store.change_all(changes)
                book.change_all(changes)
            if deed == 1 and changes:
                store.change(*changes[0])
                book.change_all(changes[:1])
            if deed == 2 and asked:
                place = asked[below(len(asked))]
                store.ask(place)
                book.asked += book.read_by(place)
            if deed == 3:
                store.news()
                book.news()
        except Boom:
            return True
        finally:
            adding.left = None
        return False

    def test_an_adding_that_raises_at_the_begin(self):
        adding = Adding("text")
        adding.left = 0
        self.assertRaises(Boom, Store, S, (1, 1), ("a", "b"), adding)
        self.assertEqual(Store(S, (1, 2), ("a", "b"), adding).kept(), {0: "a", 1: "b"})

    def test_equal_to_nothing_else(self):
        store = Store(S, (1, 1), ("a", "b"), joined)
        for other in (S, None, (), "a", 0, (1, 1), Store):
            self.assertFalse(store == other)
            self.assertTrue(store != other)


class RefusedTest(unittest.TestCase):

    def test_no_plan_then_no_amounts(self):
        for odd in odd_things() + [(1,), (1, 3), (0, 1), [1, 1], (1, True), (1, 1, 1)]:
            self.assertRaises(NoPlan, Store, S, odd, ("a", "b"), joined)
            self.assertRaises(NoPlan, Store, S, odd, odd, joined)
        for odd in odd_things():
            for thing in spoiled((1, 2), odd):
                self.assertRaises(NoPlan, Store, S, thing, None, joined)
            if type(odd) is tuple and len(odd) == 2:
                Store(S, (1, 2), odd, joined)
            else:
                self.assertRaises(NoAmounts, Store, S, (1, 2), odd, joined)
        for thing in (["a", "b"], "ab", {0: "a", 1: "b"}, ("a",), ("a", "b", "c"), (), range(2), None):
            self.assertRaises(NoAmounts, Store, S, (1, 1), thing, joined)
        self.assertRaises(NoAmounts, Store, LONE, (1,), [], joined)

    def store(self, forest=MIXED):
        store = Store(forest, (1,) * len(forest.parents), tuple(["a"] * len(forest.bearing)), joined)
        for place in forest.asking[:2]:
            store.watch(place)
        return store

    def unchanged(self, store, book):
        agree(self, store, book, Adding("text"))
        self.assertEqual(store.news(), [])

    def test_no_places(self):
        store = self.store()
        book = Book(MIXED, store.plan(), ("a",) * 4)
        book.watched = {0: False, 2: False}
        for thing in odd_numbers() + [3, 5, 6]:
            self.assertRaises(NoPlace, store.change, thing, "b")
            self.assertRaises(NoPlace, store.amount, thing)
        for thing in odd_numbers() + [1, 5, 6]:
            for method in (store.ask, store.watch, store.unwatch):
                self.assertRaises(NoPlace, method, thing)
        for thing in (0, 2):
            self.assertRaises(NoPlace, store.watch, thing)
        for thing in (3, 4):
            self.assertRaises(NoPlace, store.unwatch, thing)
        self.unchanged(store, book)

    def test_no_changes(self):
        store = self.store()
        book = Book(MIXED, store.plan(), ("a",) * 4)
        book.watched = {0: False, 2: False}
        right = [(0, "x"), (4, None)]
        wrong = [[(0, "x"), (0, "y")], [(3, "x")], [(5, "x")], [(6, "x")], [(-1, "x")], [(BIG, "x")], [[0, "x"]],
                 [(0,)], [(0, "x", "y")], [()], [0], (0, "x"), {0: "x"}, "", b"", None, range(0), 0, {},
                 [(True, "x")], [(False, "x")], [("0", "x")], [(None, "x")], [((0,), "x")], [(0, "x"), None],
                 [(0, "x"), (1, "x"), (2, "x"), (4, "x"), (0, "x")], nested(40, "list"), nested(40, "tuple")]
        wrong += [[(0, "x")] * 61, [(0, "x")] * 20000]
        for odd in odd_things():
            wrong += [odd, [odd], right + [odd], [(odd, "x")], ((0, "x"), (odd, "y"))]
            wrong += spoiled(right, odd)
        for thing in wrong:
            if not are_changes(MIXED, thing):
                self.assertRaises(NoChanges, store.change_all, thing)
        self.unchanged(store, book)
        store.change_all(((4, "y"), (0, "x")))
        self.assertEqual((store.amount(0), store.amount(4)), ("x", "y"))

    def test_60_changes(self):
        adding = Adding("greater")
        forest = row(60)
        store, book = begun_pair(self, chance(235), forest, adding)
        changes = [(place, 100 - place) for place in forest.bearing]
        store.change_all(changes)
        book.change_all(changes)
        agree(self, store, book, adding)
        self.assertRaises(NoChanges, store.change_all, changes + [(0, 1)])

    def test_odd_amounts_are_kept_as_they_are(self):
        for odd in odd_things() + [None, [], ()]:
            store = Store(S, (1, 2), (odd, odd), joined)
            self.assertIs(store.amount(0), odd)
            self.assertIs(store.ask(0), odd)
            store.change(1, odd)
            self.assertIs(store.amount(1), odd)
            self.assertIs(store.kept()[1], odd)

    def test_forest_and_plan(self):
        below = chance(236)
        for forest in (H, MIXED, LONE):
            plan = some_plan(below, forest)
            store = Store(forest, plan, ("a",) * len(forest.bearing), joined)
            self.assertEqual((store.forest(), store.plan()), (forest, plan))


if __name__ == "__main__":
    unittest.main()
