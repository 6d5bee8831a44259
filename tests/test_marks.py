"""[13.1], with [0.2] to [0.4] as far as they touch marks, copies and what is tried."""

import unittest

from cutnotes.errors import NoMark, NoPlace
from cutnotes.forests import Forest, row
from cutnotes.stores import Store
from common import BIG, H, LONE, MIXED, S, chance, long_forest, odd_numbers, some_forest
from storing import (
    KINDS, Adding, Book, Boom, agree, agree_on_asks, agree_on_news, begun_pair, some_changes, some_hang, some_turn)


def joined(one, other):
    return one + other


class Life:
    """Drives a store and an account of it through deeds of all kinds, by chance."""

    def __init__(self, test, below, store, book, adding):
        self.test, self.below, self.adding = test, below, adding
        self.store, self.book = store, book
        # What went apart, with accounts of it.
        self.apart = []

    def agree(self):
        agree(self.test, self.store, self.book, self.adding)

    def some_mark(self):
        marks = sorted(self.book.marks)
        return marks[self.below(len(marks))] if marks else None

    def step(self, depth=0):
        below, store, book = self.below, self.store, self.book
        deed = below(13)
        if deed in (0, 1):
            changes = some_changes(below, book.forest, self.adding, book.amounts)
            store.change_all(changes)
            book.change_all(changes)
        if deed == 2:
            turn = some_turn(below, book, self.adding)
            self.test.assertEqual(store.turn(*turn), book.turn(*turn))
        if deed == 3 and len(book.plan) < 60:
            hang = some_hang(below, book, self.adding)
            self.test.assertEqual(store.hang(*hang), book.hang(*hang))
        if deed in (4, 5):
            self.test.assertEqual(store.mark(), book.mark())
        if deed == 6 and book.marks:
            mark = self.some_mark()
            self.test.assertIsNone(store.back_to(mark))
            book.back_to(mark)
        if deed == 7 and book.marks:
            mark = self.some_mark()
            self.test.assertIsNone(store.drop(mark))
            del book.marks[mark]
        if deed == 8 and book.marks:
            self.ask_back(self.some_mark())
        if deed == 9:
            self.watch_or_hear()
        if deed == 10:
            self.go_apart()
        if deed in (11, 12) and depth < 3:
            self.trying(depth)

    def ask_back(self, mark):
        then = self.book.at(mark)
        for place in range(60):
            if place in then.forest.asking:
                self.test.assertTrue(self.adding.is_right(self.store.ask_at(mark, place), then.over(place)))
            else:
                self.test.assertRaises(NoPlace, self.store.ask_at, mark, place)

    def watch_or_hear(self):
        asking = self.book.forest.asking
        place = asking[self.below(len(asking))] if asking else None
        if place in self.book.watched or place is None:
            agree_on_news(self.test, self.store, self.book, self.adding)
        else:
            self.store.watch(place)
            self.book.watched[place] = False

    def go_apart(self):
        other, twin = self.store.copy(), self.book.twin()
        self.test.assertIs(type(other), Store)
        if self.below(2):
            self.apart.append((other, twin))
        else:
            self.apart.append((self.store, self.book))
            self.store, self.book = other, twin

    def trying(self, depth):
        """Some deeds are tried; an error, or none, ends them; all is put back."""
        store, before = self.store, self.book.twin()
        ends_well = self.below(2)

        def action(passed):
            self.test.assertIs(passed, store)
            for _ in range(self.below(6)):
                self.step(depth + 1)
                if self.store is not store:
                    # What goes apart within stays as it is now; the store itself is tried on.
                    self.apart = [(one, book) for one, book in self.apart if one is not store]
                    self.apart.append((self.store, self.book))
                    self.store, self.book = store, self.book.twin()
                self.agree()
            if not ends_well:
                raise Boom("tried")
            return [self.book.plan]
        if ends_well:
            self.test.assertIs(type(store.trying(action)), list)
        else:
            self.test.assertRaises(Boom, store.trying, action)
        self.book = before
        self.agree()

    def at_last(self):
        for mark in self.book.marks:
            self.ask_back(mark)
        for store, book in self.apart[-5:] + [(self.store, self.book)]:
            agree(self.test, store, book, self.adding)
            agree_on_news(self.test, store, book, self.adding)
            agree_on_asks(self.test, store, book, self.adding)


class MarksTest(unittest.TestCase):

    def test_lives_of_all_kinds(self):
        below = chance(251)
        for kind in KINDS:
            for forest in (H, S, MIXED, LONE, row(6), long_forest(below, 8), some_forest(below, 10)):
                adding = Adding(kind)
                life = Life(self, below, *begun_pair(self, below, forest, adding), adding)
                for _ in range(60):
                    life.step()
                    life.agree()
                life.at_last()

    def test_numbers_are_never_used_twice(self):
        store = Store(S, (1, 1), ("a", "b"), joined)
        self.assertEqual([store.mark(), store.mark(), store.mark()], [0, 1, 2])
        self.assertEqual(store.marks(), (0, 1, 2))
        for mark in (2, 0):
            self.assertIsNone(store.drop(mark))
        self.assertEqual((store.marks(), store.mark()), ((1,), 3))
        store.back_to(1)
        self.assertEqual((store.mark(), store.marks()), (4, (1, 3, 4)))
        self.assertIs(type(store.marks()), tuple)

    def test_ask_at_behind_changes_turns_and_hangs(self):
        store = Store(S, (1, 2), ("a", "b"), joined)
        store.mark()
        store.change(0, "x")
        store.mark()
        store.hang(1, 1, True, ("c",))
        store.mark()
        store.turn(Forest((None, None, 0), (0, 1), (0, 2)), (1, 1, 1), {})
        self.assertEqual([store.ask_at(0, 1), store.ask_at(1, 1), store.ask_at(2, 2)], ["ab", "xb", "xbc"])
        self.assertRaises(NoPlace, store.ask_at, 1, 2)
        self.assertRaises(NoPlace, store.ask, 1)
        counts = (store.touched(), store.asked())
        self.assertEqual(store.ask_at(2, 2), "xbc")
        self.assertEqual((store.touched(), store.asked()), counts)
        self.assertEqual(counts, (2, 0))

    def test_back_to(self):
        store = Store(S, (1, 2), ("a", "b"), joined)
        store.watch(1)
        mark = store.mark()
        store.hang(1, 1, True, ("c",))
        store.change(1, "x")
        store.watch(2)
        store.unwatch(1)
        store.watch(0)
        counts = (store.touched(), store.asked())
        store.back_to(mark)
        self.assertEqual((store.forest(), store.plan(), store.kept()), (S, (1, 2), {0: "a", 1: "b"}))
        self.assertEqual((store.watched(), store.marks(), store.touched(), store.asked()), ((0,), (0,)) + counts)
        self.assertEqual(store.news(), [(0, "a")])
        self.assertEqual(store.hang(1, 1, True, ("z",)), 2)

    def test_held(self):
        store = Store(row(3), (1, 2, 3), ("a", "b", "c"), joined)
        store.mark()
        self.assertEqual(store.held(), 0)
        store.change(1, "b")
        # Whatever it holds, it is another version.
        self.assertEqual(store.held(), 1)
        store.mark()
        store.change_all([(0, "a"), (1, "b")])
        self.assertEqual(store.held(), 3)
        store.drop(0)
        self.assertEqual(store.held(), 2)
        store.back_to(1)
        self.assertEqual(store.held(), 0)
        store.turn(row(3), (1, 1, 2), {})
        # Made anew by the turn: (0, 1), which no note had; (1,) is held by the mark alone now.
        self.assertEqual((store.held(), store.kept()), (1, {0: "a", 1: "ab", 2: "c"}))
        store.turn(row(3), (1, 2, 3), {})
        # The same places once more are another version, as nothing had them meanwhile.
        self.assertEqual(store.held(), 1)
        store.back_to(1)
        self.assertEqual(store.held(), 0)
        store.drop(1)
        self.assertEqual(store.held(), 0)

    def test_one_version_for_notes_with_the_very_same_places(self):
        store = Store(Forest((None, 0, 0, 0), (0,), (1, 2, 3)), (1, 1, 1, 1), ("a",), joined)
        store.mark()
        store.change(0, "b")
        self.assertEqual((store.held(), store.touched()), (1, 3))
        store.mark()
        store.change(0, "c")
        self.assertEqual((store.held(), store.touched()), (2, 6))
        store.turn(store.forest(), (1, 2, 2, 2), {})
        self.assertEqual((store.held(), store.kept()), (2, {0: "c"}))

    def test_copies_go_on_apart(self):
        store = Store(S, (1, 1), ("a", "b"), joined)
        store.watch(1)
        store.mark()
        store.change(0, "x")
        other = store.copy()
        self.assertIsNot(other, store)
        self.assertFalse(other == store)
        other.change(1, "y")
        other.drop(0)
        store.mark()
        self.assertEqual((store.ask(1), other.ask(1)), ("xb", "xy"))
        self.assertEqual((store.marks(), other.marks(), other.mark()), ((0, 1), (), 1))
        self.assertEqual((store.touched(), other.touched()), (2, 3))
        self.assertEqual((store.news(), other.news()), ([(1, "xb")], [(1, "xy")]))

    def test_a_copy_puts_nothing_together(self):
        adding = Adding("text")
        store = Store(row(4), (1, 1, 1, 1), ("a", "b", "c", "d"), adding)
        before = adding.calls
        self.assertEqual(store.copy().kept(), store.kept())
        self.assertIsNone(store.trying(lambda passed: passed.watch(0)))
        self.assertEqual(adding.calls, before)

    def test_trying_puts_all_back(self):
        store = Store(S, (1, 1), ("a", "b"), joined)
        store.watch(1)
        store.change(0, "x")
        store.mark()

        def action(passed):
            passed.change(1, "y")
            passed.mark()
            passed.hang(None, 1, True, ("z",))
            passed.unwatch(1)
            passed.watch(2)
            passed.drop(0)
            passed.turn(row(3), (1, 1, 1), {})
            return (passed.ask(2), passed.marks(), passed.news(), passed.mark())
        self.assertEqual(store.trying(action), ("xyz", (1,), [(2, "xyz")], 2))
        book = Book(S, (1, 1), ("a", "b"))
        book.watched = {1: False}
        book.change_all([(0, "x")])
        book.mark()
        agree(self, store, book, Adding("text"))
        self.assertEqual(store.mark(), 1)
        self.assertEqual(store.news(), [(1, "xb")])
        self.assertEqual(store.asked(), 1)

    def test_trying_with_an_error_and_within(self):
        store = Store(S, (1, 1), ("a", "b"), joined)

        def inner(passed):
            passed.change(0, "in")
            passed.mark()
            raise NoMark()

        def outer(passed):
            passed.change(1, "out")
            self.assertRaises(NoMark, passed.trying, inner)
            self.assertEqual((passed.ask(1), passed.marks()), ("aout", ()))
            return passed.trying(lambda again: again.amount(1))
        self.assertEqual(store.trying(outer), "out")
        self.assertEqual((store.ask(1), store.touched(), store.asked()), ("ab", 0, 1))
        self.assertIsNone(store.trying(lambda passed: None))
        self.assertRaises(ZeroDivisionError, store.trying, lambda passed: passed.change(0, 1 // 0))

    def test_adding_that_raises_in_ask_at(self):
        adding = Adding("text")
        store = Store(S, (1, 2), ("a", "b"), adding)
        store.mark()
        adding.left = 0
        self.assertRaises(Boom, store.ask_at, 0, 1)
        adding.left = None
        self.assertEqual(store.ask_at(0, 1), "ab")

    def test_no_mark_then_no_place(self):
        store = Store(MIXED, (1,) * 6, ("a", "b", "c", "d"), joined)
        for _ in range(3):
            store.mark()
        store.drop(1)
        for thing in odd_numbers() + [1, 3, -1, BIG]:
            self.assertRaises(NoMark, store.ask_at, thing, 0)
            self.assertRaises(NoMark, store.ask_at, thing, thing)
            self.assertRaises(NoMark, store.back_to, thing)
            self.assertRaises(NoMark, store.drop, thing)
        for thing in odd_numbers() + [1, 5, 6]:
            self.assertRaises(NoPlace, store.ask_at, 0, thing)
        self.assertEqual(store.marks(), (0, 2))
        agree_book = Book(MIXED, (1,) * 6, ("a", "b", "c", "d"))
        for _ in range(3):
            agree_book.mark()
        del agree_book.marks[1]
        agree(self, store, agree_book, Adding("text"))


if __name__ == "__main__":
    unittest.main()
