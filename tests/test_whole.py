"""One hierarchy by all doors: what the parts of the program tell of it agrees."""

import unittest

from cutnotes.bars import bar, is_bar
from cutnotes.budgets import plan_within
from cutnotes.counting import all_plans, count_plans, plan_at, plan_number
from cutnotes.errors import TooMany
from cutnotes.floors import borne, floor, is_floor
from cutnotes.forests import Forest, is_row, pairs, row, under
from cutnotes.notes import is_keeper, is_single, lacking, point, twice
from cutnotes.plans import cuts_of, notes_of, plan_of, stack
from cutnotes.points import beaten, least_points
from cutnotes.prices import cheapest, cheapest_keeping, corners, count_cheapest, least_price, price_of
from cutnotes.reaching import is_reaches, reaches
from cutnotes.reading import read_forest, read_notes, read_plan
from cutnotes.rowwise import is_unbeatable, longest_row, plan_by_reads, plan_by_touches, weights
from cutnotes.stores import Store
from cutnotes.strangers import told_notes, wrong_pair
from cutnotes.tables import crossing, forest_of, is_table
from cutnotes.texts import forest_text, notes_text, plan_text
from cutnotes.unders import high, is_under, low, under_keeper
from cutnotes.vaults import Medium, Vault, begun, seen
from cutnotes.weaving import is_history, woven, wrong_answer
from common import H, LONE, MIXED, chance, long_forest, nowhere_greater, some_forest, some_keeper, some_plan, some_prices


def joined(one, other):
    return one + other


class WholeTest(unittest.TestCase):

    def test_small_hierarchies(self):
        below = chance(301)
        forests = [H, MIXED, LONE, row(1), row(2), row(4), row(6), Forest((None, 0, 0, 0), (0,), (1, 2, 3))]
        forests += [some_forest(below, 2 + below(6)) for _ in range(30)] + [long_forest(below, 6) for _ in range(6)]
        for forest in forests:
            self.by_all_doors(below, forest)

    def test_rows_of_more_places(self):
        below = chance(302)
        for places in (13, 20):
            self.by_all_doors(below, row(places))

    def by_all_doors(self, below, forest):
        notes = some_keeper(below, forest, 2 + below(9))
        plan = under_keeper(forest, notes)
        self.plan_under_a_keeper(forest, notes, plan)
        self.numbered(forest, plan)
        self.told_by_a_stranger(forest, plan)
        self.priced(below, forest, notes, plan)
        self.within_budgets(forest, plan)
        self.counted_in_a_table(forest)
        self.led_by_the_plan(below, forest, plan)
        self.deeds_woven(below, forest, plan)
        self.read_back(forest, plan)
        if is_row(forest):
            self.in_a_row(forest, notes, plan)

    def plan_under_a_keeper(self, forest, notes, plan):
        self.assertIs(is_keeper(forest, notes), True)
        self.assertIs(is_under(forest, notes, plan), True)
        self.assertTrue(nowhere_greater(point(forest, notes_of(forest, plan)), point(forest, notes)))
        self.assertIs(is_single(forest, notes_of(forest, plan)), True)
        self.assertIsNone(lacking(forest, notes_of(forest, plan)))
        self.assertIsNone(twice(forest, notes_of(forest, plan)))
        self.assertEqual(plan_of(forest, cuts_of(forest, plan)), plan)
        for j in forest.asking:
            reading = [s for s in stack(forest, plan, j)]
            self.assertLessEqual(point(forest, notes_of(forest, plan))[1][j], len(reading))
        highs, lows = high(forest, notes), low(forest, notes)
        for s in highs:
            if not any(forest.parents[child] == s for child in highs):
                self.assertIn(s, lows)

    def numbered(self, forest, plan):
        number = plan_number(forest, plan)
        self.assertEqual(plan_at(forest, number), plan)
        self.assertLess(number, count_plans(forest))
        try:
            self.assertEqual(all_plans(forest)[number], plan)
        except TooMany:
            self.assertGreater(count_plans(forest), 2000)

    def told_by_a_stranger(self, forest, plan):
        notes = notes_of(forest, plan)

        def touching(i):
            return tuple([7 * label - 9 for label, (places, _) in enumerate(notes) if i in places])

        def reading(j):
            return tuple([7 * label - 9 for label, (_, asks) in enumerate(notes) if j in asks])
        self.assertEqual(told_notes(forest, touching, reading)[1], notes)
        self.assertIsNone(wrong_pair(forest, touching, reading))
        if pairs(forest):
            first = min(pairs(forest))
            self.assertEqual(wrong_pair(forest, touching, lambda j: () if j == first[1] else reading(j)), first)

    def priced(self, below, forest, notes, plan):
        prices = some_prices(below, len(forest.parents))
        least = least_price(forest, prices)
        told = floor(forest, prices)
        self.assertIs(is_floor(forest, prices, told), True)
        self.assertEqual(borne(forest, prices, told), least)
        self.assertLessEqual(least, price_of(forest, prices, notes_of(forest, plan)))
        self.assertLessEqual(price_of(forest, prices, notes_of(forest, plan)), price_of(forest, prices, notes))
        best = cheapest(forest, prices)
        self.assertEqual(price_of(forest, prices, notes_of(forest, best)), least)
        self.assertGreaterEqual(count_cheapest(forest, prices), 1)
        trades = corners(forest, prices)
        self.assertLessEqual(least, min(one + other for one, other in trades))
        if len(forest.parents) <= 12:
            self.assertEqual(price_of(forest, prices, notes_of(forest, cheapest_keeping(forest, prices, notes))), least)
            self.assertEqual(cheapest_keeping(forest, prices, ()), best)

    def within_budgets(self, forest, plan):
        budgets = point(forest, notes_of(forest, plan))
        found = plan_within(forest, budgets)
        self.assertTrue(nowhere_greater(point(forest, notes_of(forest, found)), budgets))
        if is_row(forest):
            self.assertGreaterEqual(reaches(forest, budgets)[(0, 0, 0)], len(forest.parents))
            self.assertIs(is_reaches(forest, budgets, reaches(forest, budgets)), True)
        if len(forest.parents) <= 10:
            self.assertIsNone(bar(forest, budgets))
            touches, reads = budgets
            for at, touch in enumerate(touches):
                if touch:
                    fewer = (touches[:at] + (touch - 1,) + touches[at + 1:], reads)
                    told, other = bar(forest, fewer), plan_within(forest, fewer)
                    self.assertIs(told is None, other is not None)
                    self.assertIs(told is None or is_bar(forest, fewer, told), True)
        if count_plans(forest) <= 2000:
            least = least_points(forest)
            self.assertIs(beaten(forest, notes_of(forest, plan)) is None, budgets in least)
            self.assertTrue(any(nowhere_greater(one, budgets) for one in least))

    def counted_in_a_table(self, forest):
        table = tuple([tuple([j for j in under(forest, i) if j in forest.asking]) for i in forest.bearing])
        if not table:
            return
        self.assertIs(is_table(table), True)
        self.assertIsNone(crossing(table))
        found, bearing, asks = forest_of(table)
        for lot, place in zip(table, bearing):
            self.assertEqual([j for j in asks if asks[j] in under(found, place)], list(lot))
        # A store of what is found tells the same as one of the forest.
        names = "abcdefghijklmnopqrstuvwxyz"[:len(table)]
        one = Store(forest, (1,) * len(forest.parents), tuple(names), joined)
        amounts = dict(zip(bearing, names))
        other = Store(found, (1,) * len(found.parents), tuple([amounts[place] for place in found.bearing]), joined)
        for j in asks:
            self.assertEqual(sorted(one.ask(j)), sorted(other.ask(asks[j])))

    def led_by_the_plan(self, below, forest, plan):
        amounts = tuple("abcdefghijklmnopqrstuvwxyz"[:len(forest.bearing)])
        store, medium = Store(forest, plan, amounts, joined), Medium()
        vault = begun(medium, forest, plan, amounts, joined)
        mark, counts = store.mark(), point(forest, notes_of(forest, plan))
        for _ in range(6):
            changes = [(i, "ABCDEFGH"[below(8)]) for i in forest.bearing if below(3) == 0]
            store.change_all(changes)
            vault.change_all(changes)
            self.stores_agree(store, vault, medium)
        for i in forest.bearing:
            before = store.touched()
            store.change(i, "z")
            vault.change_all([(i, "z")])
            # Changes touch, and asks read, as many notes as the point tells.
            self.assertEqual(store.touched() - before, counts[0][i])
            self.assertEqual(seen(forest, plan, i, counts[0][i]),
                             tuple([j for j in under(forest, i) if j in forest.asking]))
        for j in forest.asking:
            before = store.asked()
            self.assertEqual(store.ask(j), vault.ask(j))
            self.assertEqual(store.asked() - before, counts[1][j])
        best = cheapest(forest, some_prices(below, len(forest.parents)))
        answers = [vault.ask(j) for j in forest.asking]
        places = [note[0] for note in notes_of(forest, plan)]
        self.assertEqual(store.turn(forest, best, {}),
                         len([note for note in notes_of(forest, best) if note[0] not in places]))
        self.assertEqual([store.ask(j) for j in forest.asking], answers)
        store.back_to(mark)
        other = begun(Medium(), forest, best, amounts, joined)
        for j in forest.asking:
            self.assertEqual(store.ask(j), other.ask(j))
            self.assertEqual(store.ask_at(mark, j), other.ask(j))

    def stores_agree(self, store, vault, medium):
        cells = medium.cells()
        self.assertEqual(store.kept(), {cell[1]: cells[cell] for cell in cells if cell[0] == "note"})
        for i in store.forest().bearing:
            self.assertEqual(store.amount(i), cells[("amount", i)])
        again = Vault(medium, store.forest(), store.plan(), joined)
        for j in store.forest().asking:
            self.assertEqual({store.ask(j), vault.ask(j), again.ask(j)}, {store.ask(j)})

    def deeds_woven(self, below, forest, plan):
        amounts = tuple("abcdefghijklmnopqrstuvwxyz"[:len(forest.bearing)])
        deeds = [("change", i, "xyz"[below(3)]) for i in forest.bearing[:3]] + [("ask", j) for j in forest.asking[-3:]]
        if not deeds:
            return
        turns = [below(len(deeds)) for _ in range(60)]
        history = woven(forest, plan, amounts, joined, deeds, turns)
        self.assertIs(is_history(forest, history), True)
        self.assertIsNone(wrong_answer(forest, amounts, joined, history))
        # One deed behind another: what is told is what a store tells.
        store = Store(forest, plan, amounts, joined)
        history = woven(forest, plan, amounts, joined, deeds, [k for k in range(len(deeds)) for _ in range(20)])
        told = {event[1]: event[2] for event in history if event[0] == "told"}
        for k, deed in enumerate(deeds):
            if deed[0] == "change":
                store.change(*deed[1:])
            else:
                self.assertEqual(store.ask(deed[1]), told[k])
        self.assertIsNone(wrong_answer(forest, amounts, joined, history))

    def read_back(self, forest, plan):
        again = read_forest(forest_text(forest))
        self.assertEqual(again, forest)
        self.assertEqual(read_plan(again, plan_text(forest, plan)), plan)
        notes = notes_of(forest, plan)
        self.assertEqual(read_notes(again, notes_text(forest, notes)), notes)

    def in_a_row(self, forest, notes, plan):
        led = notes_of(forest, plan)
        touches, reads = point(forest, led)
        self.assertEqual(weights(forest, led), (1,))
        self.assertEqual((plan_by_touches(forest, touches), plan_by_reads(forest, reads)), (plan, plan))
        self.assertIs(is_unbeatable(forest, notes), point(forest, notes) == (touches, reads))
        self.assertGreaterEqual(longest_row(max(touches), max(reads)), len(forest.parents))

    def test_more_steps_of_one_store(self):
        below = chance(303)
        for forest in (H, row(5), MIXED):
            plan = some_plan(below, forest)
            store = Store(forest, plan, ("a",) * len(forest.bearing), joined)
            marks = []
            while len(store.plan()) < 9:
                marks.append((store.mark(), store.forest(), store.plan(), store.kept()))
                store.hang(below(len(store.plan())), 1, True, ("b",))
                self.assertEqual(read_forest(forest_text(store.forest())), store.forest())
                self.assertEqual(read_plan(store.forest(), plan_text(store.forest(), store.plan())), store.plan())
                self.assertEqual(len(store.kept()), len(notes_of(store.forest(), store.plan())))
            for mark, was, by, kept in marks[::-1]:
                store.back_to(mark)
                self.assertEqual((store.forest(), store.plan(), store.kept()), (was, by, kept))


if __name__ == "__main__":
    unittest.main()
