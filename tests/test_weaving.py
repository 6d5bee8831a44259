"""[15.1], [15.2], with [0.2] to [0.4] as far as they touch histories and deeds woven."""

import copy
import unittest
from itertools import product

from cutnotes.errors import NoAmounts, NoDeeds, NoHistory, NoPlan, NoTurns, TooMany
from cutnotes.forests import Forest, row
from cutnotes.weaving import is_history, woven, wrong_answer
from common import (
    BIG, H, LONE, MIXED, S, chance, is_over, long_forest, nested, odd_numbers, odd_things, placed_notes, some_forest,
    some_plan, spoiled)
from storing import KINDS, Adding, Boom, flat


def joined(one, other):
    return one + other


def is_history_by_words(forest, thing):
    if type(thing) not in (list, tuple) or len(thing) > 200:
        return False
    kinds, ended = {}, []
    for event in thing:
        if type(event) is not tuple or len(event) < 2 or type(event[1]) is not int or event[1] < 0:
            return False
        word, k = event[:2]
        if type(word) is not str:
            return False
        if word == "change" and len(event) == 4 and type(event[2]) is int and event[2] in forest.bearing:
            right = k not in kinds
            kinds[k] = "done"
        elif word == "ask" and len(event) == 3 and type(event[2]) is int and event[2] in forest.asking:
            right = k not in kinds
            kinds[k] = "told"
        elif (word, len(event)) in (("done", 2), ("told", 3)):
            right = kinds.get(k) == word and k not in ended
            ended.append(k)
        else:
            return False
        if not right:
            return False
    return True


def chosen_by_words(forest, amounts, history, at):
    """For each bearing place over the asked one the amounts that may be chosen for the answer told at a place."""
    def begin_of(deed):
        return [number for number, event in enumerate(history) if event[0] in ("change", "ask") and event[1] == deed][0]

    def end_of(deed):
        ends = [number for number, event in enumerate(history) if event[0] in ("done", "told") and event[1] == deed]
        return ends[0] if ends else None
    k = history[at][1]
    asked_at = begin_of(k)
    found = []
    for i, amount in zip(forest.bearing, amounts):
        if not is_over(forest, i, history[asked_at][2]):
            continue
        changes = [(event[1], event[3]) for event in history if event[0] == "change" and event[2] == i]

        def is_passed(deed):
            end = -1 if deed is None else end_of(deed)
            return end is not None and any(
                begin_of(other) > end and end_of(other) is not None and end_of(other) < asked_at
                for other, _ in changes if other != deed)
        held = [] if is_passed(None) else [amount]
        held += [other for deed, other in changes if begin_of(deed) < at and not is_passed(deed)]
        found.append(held)
    return found


def wrong_by_words(forest, amounts, adding, history):
    """The place of the first wrong answer, None, or "too many"."""
    for at, event in enumerate(history):
        if event[0] != "told":
            continue
        chosen = chosen_by_words(forest, amounts, history, at)
        many = 1
        for held in chosen:
            many *= len(held)
        if many > 2000:
            return "too many"
        if not any(adding.is_right(event[2], list(atoms)) for atoms in product(*chosen)):
            return at
    return None


class Clock:
    """A store of a stranger, that lives in drawn steps: begins and ends of deeds at any times."""

    def __init__(self, below, forest, amounts, adding):
        self.below, self.forest, self.adding = below, forest, adding
        self.amounts = dict(zip(forest.bearing, amounts))
        self.events = []
        self.open = {}
        self.elder = []
        self.next = 0

    def whole(self, place, held=None):
        held = held or self.amounts
        atoms = [held[i] for i in self.forest.bearing if is_over(self.forest, i, place)]
        whole = None
        for at, atom in enumerate(atoms):
            whole = self.adding(whole, atom) if at else atom
        return whole

    def step(self, spoil):
        below, forest = self.below, self.forest
        deed = below(4)
        k = self.next * 3 % 101
        if deed == 0 and forest.bearing:
            i = forest.bearing[below(len(forest.bearing))]
            amount = self.adding.atom(below)
            self.events.append(("change", k, i, amount))
            self.open[k] = "done"
            self.elder.append(dict(self.amounts))
            self.amounts[i] = amount
            self.next += 1
        elif deed == 1 and forest.asking:
            j = forest.asking[below(len(forest.asking))]
            self.events.append(("ask", k, j))
            self.open[k] = (j, self.whole(j))
            self.next += 1
        elif self.open:
            k = sorted(self.open)[below(len(self.open))]
            held = self.open.pop(k)
            if held == "done":
                self.events.append(("done", k))
                return
            place, answer = held
            if below(3) == 0:
                answer = self.whole(place)
            if self.elder and below(spoil) == 0:
                answer = self.whole(place, self.elder[below(len(self.elder))])
            self.events.append(("told", k, answer))


class HistoryTest(unittest.TestCase):

    def judged(self, forest, amounts, adding, history):
        for thing in (list(history), tuple(history)):
            self.assertIs(is_history(forest, thing), True)
            right = wrong_by_words(forest, amounts, adding, history)
            if right == "too many":
                with self.assertRaises(TooMany) as caught:
                    wrong_answer(forest, amounts, adding, thing)
                self.assertEqual(caught.exception.most, 2000)
            else:
                self.assertEqual(wrong_answer(forest, amounts, adding, thing), right)
        return right

    def test_histories_of_strangers(self):
        below = chance(281)
        found = []
        for kind in ("text", "greater", "tuples"):
            for forest in [S, H, MIXED, row(3), long_forest(below, 5), Forest((None, 0), (1,), (0, 1)),
                           Forest((None, None, 0), (0,), (1, 2)), Forest((None,), (0,), (0,))] * 12:
                adding = Adding(kind)
                amounts = tuple([adding.atom(below) for _ in forest.bearing])
                clock = Clock(below, forest, amounts, adding)
                for _ in range(8 + below(40)):
                    clock.step(3 + below(12))
                found.append(self.judged(forest, amounts, adding, clock.events))
        kinds = [None if told is None else "too many" if told == "too many" else "wrong" for told in found]
        self.assertGreater(min(kinds.count(None), kinds.count("wrong")), 30, kinds)

    def told(self, events, forest=S, amounts=("a", "b"), adding=joined):
        return wrong_answer(forest, amounts, adding, events)

    def test_asks_beside_changes(self):
        # The change is beside the ask: both its amount and the one before may be told.
        for answer, right in (("ab", None), ("xb", None), ("xx", 3), ("ax", 3), ("x", 3), (None, 3), ("", 3)):
            events = [("change", 0, 0, "x"), ("ask", 1, 1), ("done", 0), ("told", 1, answer)]
            self.assertEqual(self.told(events), right)
            # It begins behind the ask, ahead of the answer, and does not end.
            self.assertEqual(self.told([events[1], events[0], events[3]]), None if right is None else 2)
        # It has ended ahead of the ask: the amount at the begin is of another time.
        events = [("change", 0, 0, "x"), ("done", 0), ("ask", 1, 1), ("told", 1, "ab")]
        self.assertEqual(self.told(events), 3)
        self.assertIsNone(self.told(events[:3] + [("told", 1, "xb")]))
        # It begins behind the answer.
        events = [("ask", 1, 1), ("told", 1, "xb"), ("change", 0, 0, "x")]
        self.assertEqual(self.told(events), 1)

    def test_changes_of_one_place_beside_one_another(self):
        beside = [("change", 0, 0, "x"), ("change", 1, 0, "y"), ("done", 0), ("done", 1)]
        for answer, right in (("xb", None), ("yb", None), ("ab", 5)):
            self.assertEqual(self.told(beside + [("ask", 2, 1), ("told", 2, answer)]), right)
        behind = [("change", 0, 0, "x"), ("done", 0), ("change", 1, 0, "y"), ("done", 1)]
        for answer, right in (("xb", 5), ("yb", None), ("ab", 5)):
            self.assertEqual(self.told(behind + [("ask", 2, 1), ("told", 2, answer)]), right)
        # The second one has not ended ahead of the begin of the ask: the first one may be told still.
        for answer, right in (("xb", None), ("yb", None), ("ab", 5)):
            self.assertEqual(self.told(behind[:3] + [("ask", 2, 1), ("done", 1), ("told", 2, answer)]), right)
        # One that does not end hides nothing and is hidden by nothing.
        for answer, right in (("xb", None), ("yb", None), ("ab", 5)):
            self.assertEqual(self.told([("change", 0, 0, "x"), ("change", 1, 0, "y"), ("done", 1), ("change", 3, 1, "b"),
                                        ("ask", 2, 1), ("told", 2, answer)]), right)
        # Changes of other places hide nothing.
        events = [("change", 0, 1, "x"), ("done", 0), ("change", 1, 1, "y"), ("done", 1), ("ask", 2, 0)]
        self.assertIsNone(self.told(events + [("told", 2, "a")]))

    def test_nothing_bears_over_the_asked_one(self):
        forest = Forest((None, 0, 0), (1,), (0, 1, 2))
        for answer, right in ((None, None), ("a", 1), ((), 1), (0, 1), (False, 1), (H, 1)):
            self.assertEqual(self.told([("ask", 0, 2), ("told", 0, answer)], forest, ("a",)), right)
        # Where one bears, None is an answer like others.
        self.assertEqual(self.told([("ask", 0, 1), ("told", 0, None)], forest, ("a",)), 1)
        self.assertIsNone(self.told([("ask", 0, 1), ("told", 0, None)], forest, (None,)))

    def test_equal_is_what_python_calls_equal(self):
        for amount, answer, right in ((0, False, None), (1, True, None), ([], [], None), ([], (), 1), (H, H, None),
                                      (S, H, 1), ({}, {}, None), ("1", 1, 1), (nested(40, "list"), nested(40, "list"), None)):
            self.assertEqual(self.told([("ask", 0, 0), ("told", 0, answer)], Forest((None,), (0,), (0,)), (amount,)), right)

    def test_answers_of_any_objects(self):
        forest = row(3)
        adding = Adding("any")
        clock = Clock(chance(282), forest, (None, [], False), adding)
        for _ in range(60):
            clock.step(10 ** 6)
        events = [event if event[0] != "told" else event[:2] + (tuple(flat(event[2])),) for event in clock.events]
        # Told as tuples of what is put together, of an adding that puts tuples together.
        tupled = [event if event[0] != "change" else event[:3] + ((event[3],),) for event in events]
        self.assertEqual(wrong_answer(forest, ((None,), ([],), (False,)), joined, tupled), None)

    def test_just_2000_choices_and_more(self):
        # 5 * 5 * 5 * 16 choices, then 5 * 5 * 5 * 17.
        changes = [("change", 10 * i + k, i, 100 * i + k) for i, many in enumerate((4, 4, 4, 15)) for k in range(many)]
        ask = [("ask", 500, 3), ("told", 500, 777)]
        forest = row(4)
        self.assertEqual(self.told(changes + ask, forest, (-1, -1, -1, -1), max), len(changes) + 1)
        self.assertIsNone(self.told(changes + ask[:1] + [("told", 500, 314)], forest, (-1, -1, -1, -1), max))
        more = changes + [("change", 99, 3, 0)]
        for answer in (0, 314, 777):
            with self.assertRaises(TooMany) as caught:
                self.told(more + ask[:1] + [("told", 500, answer)], forest, (-1, -1, -1, -1), max)
            self.assertEqual(caught.exception.most, 2000)
        # A wrong answer ahead of it is told; one behind it is not come to.
        wrong = [("ask", 501, 0), ("told", 501, 77)]
        self.assertEqual(self.told(wrong + more + ask, forest, (-1, -1, -1, -1), max), 1)
        self.assertEqual(self.told(more + wrong + ask, forest, (-1, -1, -1, -1), max), len(more) + 1)
        self.assertRaises(TooMany, self.told, more + ask + wrong, forest, (-1, -1, -1, -1), max)
        # An ask of a place over which there are fewer choices is judged all the same.
        self.assertIsNone(self.told(more + [("ask", 1000, 2), ("told", 1000, 203)], forest, (-1, -1, -1, -1), max))
        # What is not told has no choices.
        self.assertIsNone(self.told(more + ask[:1], forest, (-1, -1, -1, -1), max))

    def test_60_places(self):
        forest = row(60)
        events = [("ask", 0, 59), ("told", 0, "abc" * 20)]
        self.assertIsNone(self.told(events, forest, tuple("abc" * 20)))
        self.assertEqual(self.told(events, forest, tuple("bac" * 20)), 1)

    def test_an_adding_that_raises(self):
        adding = Adding("text")
        adding.left = 0
        self.assertRaises(Boom, self.told, [("ask", 0, 1), ("told", 0, "ab")], S, ("a", "b"), adding)

    def test_no_amounts_then_no_history(self):
        right = [("ask", 0, 1), ("told", 0, "ab")]
        for odd in odd_things() + [["a", "b"], ("a",), ("a", "b", "c"), "ab", ()]:
            if not (type(odd) is tuple and len(odd) == 2):
                self.assertRaises(NoAmounts, wrong_answer, S, odd, joined, right)
                self.assertRaises(NoAmounts, wrong_answer, S, odd, joined, odd)
        for odd in odd_things():
            if not is_history_by_words(S, odd):
                self.assertRaises(NoHistory, wrong_answer, S, ("a", "b"), joined, odd)
        self.assertIsNone(wrong_answer(S, ("a", "b"), joined, []))


class IsHistoryTest(unittest.TestCase):

    def fits(self, forest, thing):
        right = is_history_by_words(forest, thing)
        self.assertIs(is_history(forest, thing), right, thing)
        if not right:
            self.assertRaises(NoHistory, wrong_answer, forest, ("a",) * len(forest.bearing), joined, thing)
        return right

    def test_events_of_each_kind(self):
        change, ask, done, told = ("change", 0, 1, "x"), ("ask", 0, 4), ("done", 0), ("told", 0, "x")
        for right in ([], (), [change], [ask], [change, done], (ask, told), [change, ("ask", 1, 0), ("told", 1, []), done],
                      [("change", 10 ** 59, 0, None), ("done", 10 ** 59)]):
            self.assertIs(self.fits(MIXED, right), True)
        for wrong in ([done], [told], [change, change], [ask, ask], [change, ask], [ask, change], [change, told],
                      [ask, done], [done, change], [told, ask], [change, done, done], [ask, told, told],
                      [change, done, change], [change, done, ask], [ask, told, ask, told], [change, done, told],
                      [list(change)], [("change", 0, 1)], [("change", 0, 1, "x", "y")], [("ask", 0)], [("ask", 0, 0, 0)],
                      [change, ("done",)], [change, ("done", 0, 0)], [ask, ("told", 0)], [ask, ("told", 0, 1, 2)],
                      [("change", -1, 1, "x")], [("change", True, 1, "x")], [("ask", "0", 4)], [("ask", None, 4)],
                      [("change", 0, 3, "x")], [("change", 0, 5, "x")], [("change", 0, 6, "x")], [("change", 0, -1, "x")],
                      [("ask", 0, 1)], [("ask", 0, 6)], [("ask", 0, True)], [("change", 0, True, "x")],
                      [("Ask", 0, 4)], [("", 0, 4)], [(b"ask", 0, 4)], [(0, 0, 4)], [("tell", 0, 4)], [()], ["ask"], ("ask", 0, 4),
                      {0: ask}, [None], [change, ("done", 1)], [change, ("done", True)], [ask, ("told", False, "x")],
                      [change, ("done", BIG)], [("change", [0], 1, "x")], [("ask", (0,), 4)]):
            self.assertIs(self.fits(MIXED, wrong), False)

    def test_200_and_201_events(self):
        events = [("change", k, 0, "x") for k in range(100)] + [("done", k) for k in range(100)]
        self.assertIs(self.fits(S, events), True)
        self.assertIs(self.fits(S, tuple(events)), True)
        self.assertIs(self.fits(S, events + [("ask", 200, 0)]), False)
        self.assertIs(self.fits(S, [("ask", k, 0) for k in range(201)]), False)
        self.assertIs(self.fits(S, [("ask", k, 0) for k in range(200)]), True)

    def test_events_by_chance(self):
        below = chance(283)
        right = 0
        for _ in range(6000):
            events = []
            for _ in range(below(6)):
                k = below(3)
                events.append((("change", k, below(4), "x"), ("ask", k, below(4)), ("done", k), ("told", k, "x"))[below(4)])
            right += self.fits(Forest((None, 0, 0), (0, 1), (1, 2)), events)
        self.assertGreater(right, 500)

    def test_odd_things_in_each_place(self):
        history = [("change", 0, 0, "x"), ("ask", 1, 1), ("done", 0), ("told", 1, "xb")]
        for odd in odd_things() + odd_numbers():
            for thing in [odd] + spoiled(history, odd) + spoiled(tuple(history), odd):
                self.fits(S, thing)

    def test_nothing_passed_is_changed(self):
        history = [("change", 0, 0, ["x"]), ("ask", 1, 0), ("told", 1, ["x"])]
        before = copy.deepcopy(history)
        is_history(S, history)
        self.assertIsNone(wrong_answer(S, (["a"], ["b"]), joined, history))
        self.assertEqual(history, before)


def woven_by_words(forest, plan, amounts, deeds, turns):
    """The history of deeds woven, with lists of amounts for answers, by the words of [15.2]."""
    notes = placed_notes(forest, plan)
    amounts = dict(zip(forest.bearing, amounts))
    held = {s: [amounts[i] for i in notes[s][0]] for s in notes}
    events = []

    def lived(k):
        """A deed, step by step, as long as it goes on."""
        deed = deeds[k]
        if deed[0] == "change":
            events.append(("change", k, deed[1], deed[2]))
            amounts[deed[1]] = deed[2]
            steps = [s for s in sorted(notes, reverse=True) if deed[1] in notes[s][0]]
        else:
            events.append(("ask", k, deed[1]))
            steps = [s for s in sorted(notes) if deed[1] in notes[s][1]]
        read = []
        for at, s in enumerate(steps):
            if deed[0] == "change":
                held[s] = [amounts[i] for i in notes[s][0]]
            else:
                read += held[s]
            if at < len(steps) - 1:
                yield
        events.append(("done", k) if deed[0] == "change" else ("told", k, read))
    lives = {k: lived(k) for k in range(len(deeds))}
    for k in turns:
        next(lives[k], None)
    return events


class WovenTest(unittest.TestCase):

    def fits(self, forest, plan, amounts, adding, deeds, turns):
        right = woven_by_words(forest, plan, amounts, deeds, turns)
        for kind in (list, tuple):
            told = woven(forest, plan, amounts, adding, kind(deeds), kind(turns))
            self.assertIs(type(told), tuple)
            self.assertEqual(len(told), len(right))
            for one, other in zip(told, right):
                self.assertIs(type(one), tuple)
                if one[0] == "told":
                    self.assertEqual((len(one),) + one[:2], (3,) + other[:2])
                    self.assertTrue(adding.is_right(one[2], other[2]))
                else:
                    self.assertEqual(one, other)
            self.assertIs(is_history(forest, told), True)
        try:
            self.assertIsNone(wrong_answer(forest, amounts, adding, told))
            return True
        except TooMany:
            return False

    def some_deeds(self, below, forest, adding):
        deeds = []
        while len(deeds) < 1 + below(8):
            if below(2) and forest.bearing:
                deeds.append(("change", forest.bearing[below(len(forest.bearing))], adding.atom(below)))
            elif forest.asking:
                deeds.append(("ask", forest.asking[below(len(forest.asking))]))
        return deeds

    def test_by_the_words(self):
        below = chance(291)
        judged = 0
        for kind in ("text", "greater", "tuples"):
            for forest in [H, S, MIXED, row(5), long_forest(below, 7), some_forest(below, 8), row(12),
                           Forest((None, 0, 0, 0), (0,), (1, 2, 3)), Forest((None, 0), (0,), (0, 1)),
                           Forest((None, 0, 0), (1,), (0, 2)), Forest((None, 0), (0, 1), (0,))] * 8:
                adding = Adding(kind)
                amounts = tuple([adding.atom(below) for _ in forest.bearing])
                deeds = self.some_deeds(below, forest, adding)
                turns = [below(len(deeds)) for _ in range(below(40))]
                judged += self.fits(forest, some_plan(below, forest), amounts, adding, deeds, turns)
        self.assertGreater(judged, 200)

    def test_all_turns_of_few_deeds(self):
        forest, plan = row(3), (1, 2, 1)
        deeds = [("change", 0, "x"), ("ask", 2), ("change", 1, "y"), ("ask", 1)]
        for many in range(6):
            for turns in product(range(4), repeat=many):
                self.assertIs(self.fits(forest, plan, ("a", "b", "c"), Adding("text"), deeds, list(turns)), True)

    def test_20_deeds_and_400_turns(self):
        below = chance(292)
        for forest in (row(60), long_forest(below, 60)):
            adding = Adding("greater")
            amounts = tuple([adding.atom(below) for _ in forest.bearing])
            deeds = [("ask", 40 + k) if k > 2 else ("change", k, 100) for k in range(20)]
            for _ in range(2):
                turns = [below(20) for _ in range(400)]
                self.assertIs(self.fits(forest, some_plan(below, forest), amounts, adding, deeds, turns), True)

    def test_deeds_of_no_notes_and_turns_behind_the_end(self):
        forest = Forest((None, 0, None), (0, 1), (0, 2))
        deeds = [("change", 1, "x"), ("ask", 2), ("ask", 0), ("change", 0, "y"), ("ask", 0)]
        events = woven(forest, (1, 2, 1), ("a", "b"), joined, deeds, [0, 0, 1, 1, 1, 2, 2, 0, 3, 3])
        self.assertEqual(events, (("change", 0, 1, "x"), ("done", 0), ("ask", 1, 2), ("told", 1, None), ("ask", 2, 0),
                                  ("told", 2, "a"), ("change", 3, 0, "y"), ("done", 3)))
        self.assertEqual(woven(forest, (1, 2, 1), ("a", "b"), joined, deeds, ()), ())
        self.assertEqual(woven(forest, (1, 2, 1), ("a", "b"), joined, (), []), ())

    def test_an_ask_between_the_notes_of_a_change(self):
        deeds = [("change", 0, "x"), ("ask", 1), ("ask", 2)]
        # The note at the greater place is made anew first, and the asks under it see the change first.
        told = woven(row(3), (1, 1, 1), ("a", "b", "c"), joined, deeds, [0, 2, 1, 0, 0])
        self.assertEqual(told, (("change", 0, 0, "x"), ("ask", 2, 2), ("told", 2, "xbc"), ("ask", 1, 1), ("told", 1, "ab"),
                                ("done", 0)))
        # Two changes of one place: each makes anew what it comes to by the amounts as they are then.
        deeds = [("change", 0, "x"), ("change", 0, "y"), ("ask", 1), ("ask", 0)]
        told = woven(S, (1, 1), ("a", "b"), joined, deeds, [0, 1, 0, 2, 3, 1])
        self.assertEqual(told, (("change", 0, 0, "x"), ("change", 1, 0, "y"), ("done", 0), ("ask", 2, 1), ("told", 2, "yb"),
                                ("ask", 3, 0), ("told", 3, "y"), ("done", 1)))

    def test_any_objects(self):
        told = woven(S, (1, 2), (None, []), Adding("any"), [("ask", 1), ("ask", 0), ("change", 0, {})], [0, 0, 1, 2, 0])
        self.assertEqual(flat(told[1][2]), [None, []])
        self.assertEqual(told[2:], (("ask", 1, 0), ("told", 1, None), ("change", 2, 0, {}), ("done", 2)))

    def test_an_adding_that_raises(self):
        for left in range(3):
            adding = Adding("text")
            adding.left = left
            self.assertRaises(Boom, woven, row(3), (1, 1, 1), ("a", "b", "c"), adding, [("ask", 2)], [0])
        adding.left = 3
        self.assertRaises(Boom, woven, row(3), (1, 1, 1), ("a", "b", "c"), adding, [("change", 0, "x")], [0])

    def test_errors_in_their_order(self):
        deeds, turns = [("change", 0, "x"), ("ask", 1)], [0, 1, 0]
        for odd in odd_things() + [(1,), (1, 3), [1, 1]]:
            self.assertRaises(NoPlan, woven, S, odd, None, joined, None, None)
            self.assertRaises(NoPlan, woven, S, odd, ("a", "b"), joined, deeds, turns)
        for odd in odd_things() + [["a", "b"], ("a",), ("a", "b", "c"), "ab", ()]:
            if not (type(odd) is tuple and len(odd) == 2):
                self.assertRaises(NoAmounts, woven, S, (1, 1), odd, joined, None, None)
        for thing in self.no_deeds():
            self.assertRaises(NoDeeds, woven, S, (1, 1), ("a", "b"), joined, thing, None)
            self.assertRaises(NoDeeds, woven, S, (1, 1), ("a", "b"), joined, thing, [])
        for thing in self.no_turns(len(deeds)):
            self.assertRaises(NoTurns, woven, S, (1, 1), ("a", "b"), joined, deeds, thing)
        for thing in ([0], (0,), [-1]):
            self.assertRaises(NoTurns, woven, S, (1, 1), ("a", "b"), joined, [], thing)
        self.assertEqual(len(woven(S, (1, 1), ("a", "b"), joined, [("ask", 0)] * 20, [19] * 400)), 2)

    def no_deeds(self):
        wrong = [[("ask", 0)] * 21, [("change", 0)], [("change", 0, "x", "y")], [("ask", 0, 0)], [("ask",)], [("change",)],
                 [()], ["ask"], ("ask", 0), ("change", 0, "x"), [["ask", 0]], [("ask", 2)], [("ask", -1)], [("ask", True)],
                 [("change", 2, "x")], [("change", False, "x")], [("told", 0)], [("done", 0)], [("Ask", 0)], [(b"ask", 0)],
                 [("ask", "0")], [("ask", None)], {("ask", 0): True}, [None], [("ask", 0), None], None, "", b"", 0, {}]
        deeds = [("change", 0, "x"), ("ask", 1)]
        for odd in odd_things():
            wrong += [odd, [odd], (odd,)]
            wrong += [thing for thing in spoiled(deeds, odd) if not self.are_deeds(thing)]
        return [thing for thing in wrong if not self.are_deeds(thing)]

    def are_deeds(self, thing):
        return type(thing) in (list, tuple) and len(thing) <= 20 and all(
            type(deed) is tuple and len(deed) in (2, 3) and type(deed[0]) is str
            and deed[0] == ("", "", "ask", "change")[len(deed)] and type(deed[1]) is int and deed[1] in (0, 1)
            for deed in thing)

    def no_turns(self, many):
        wrong = [[0] * 401, [many], [-1], [True], [0, False], ["0"], [None], [[0]], [(0,)], (0, many), {0: 0}, {}, "", "0",
                 b"\x00", range(1), range(0), None, 0, [BIG]]
        for odd in odd_things() + odd_numbers():
            wrong += [odd, [odd], [0, odd]]
        return [thing for thing in wrong if not (type(thing) in (list, tuple) and len(thing) <= 400 and all(
            type(turn) is int and 0 <= turn < many for turn in thing))]


if __name__ == "__main__":
    unittest.main()
