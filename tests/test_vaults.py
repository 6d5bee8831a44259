"""[14.1] to [14.3], with [0.2] to [0.4] as far as they touch vaults and their media."""

import copy
import unittest

from cutnotes.errors import (
    NoAmounts, NoChanges, NoNumber, NoPlace, NoPlan, NotRecovered, NoVault, Stopped)
from cutnotes.forests import Forest, row
from cutnotes.vaults import Medium, Vault, begun, seen
from common import (
    BIG, H, LONE, MIXED, S, chance, full_forests, is_over, long_forest, nested, odd_numbers, odd_things, placed_notes,
    plans_by_words, some_forest, some_plan, spoiled)
from storing import KINDS, Adding, Boom, are_changes, some_changes

DUE = ("due",)


def joined(one, other):
    return one + other


class Words:
    """What cells should hold: the amounts, and for each cell of a note its places with the amounts it was made of."""

    def __init__(self, forest, plan, amounts):
        self.forest, self.notes = forest, placed_notes(forest, plan)
        self.amounts = dict(zip(forest.bearing, amounts))

    def note(self, s, amounts):
        return ("note", s), [amounts[i] for i in self.notes[s][0]]

    def to_begin(self):
        """All writes of a begin, as pairs of a cell and of what is held there, lists for notes."""
        return ([(("amount", i), self.amounts[i]) for i in self.forest.bearing]
                + [self.note(s, self.amounts) for s in sorted(self.notes, reverse=True)] + [(DUE, ())])

    def to_recover(self, due):
        amounts = {**self.amounts, **dict(due)}
        held = [s for s in sorted(self.notes, reverse=True) if any(i in self.notes[s][0] for i, _ in due)]
        return ([(("amount", i), amount) for i, amount in due] + [self.note(s, amounts) for s in held] + [(DUE, ())])

    def to_change(self, due):
        return [(DUE, tuple(due))] + self.to_recover(due)

    def told_by(self, cells, place):
        """The amounts that an ask should tell by the cells of notes."""
        return [atom for s in sorted(self.notes) if place in self.notes[s][1] for atom in cells[("note", s)]]


class VaultTest(unittest.TestCase):

    def cells_fit(self, medium, right, adding):
        cells = medium.cells()
        self.assertEqual(sorted(cells), sorted(right))
        for cell in right:
            if cell[0] == "note":
                self.assertTrue(adding.is_right(cells[cell], right[cell]), (cell, cells[cell]))
            elif cell[0] == "amount":
                self.assertIs(cells[cell], right[cell])
            else:
                self.assertEqual(cells[cell], right[cell])
                self.assertIs(type(cells[cell]), tuple)

    def asks_fit(self, vault, words, right, adding):
        for place in words.forest.asking:
            self.assertTrue(adding.is_right(vault.ask(place), words.told_by(right, place)))

    def forests(self, below):
        return [H, S, MIXED, LONE, row(5), long_forest(below, 7), some_forest(below, 9),
                Forest((None, 0, 0, 0), (0,), (1, 2, 3)), Forest((None, 0), (0, 1), ()), Forest((None, 0), (), (0, 1))]

    def test_power_that_fails_in_begun(self):
        below = chance(271)
        for kind in KINDS:
            adding = Adding(kind)
            for forest in self.forests(below):
                plan = some_plan(below, forest)
                amounts = tuple([adding.atom(below) for _ in forest.bearing])
                writes = Words(forest, plan, amounts).to_begin()
                for many in range(len(writes)):
                    medium = Medium()
                    medium.power(many)
                    self.assertRaises(Stopped, begun, medium, forest, plan, amounts, adding)
                    self.assertEqual(medium.written(), many)
                    self.cells_fit(medium, dict(writes[:many]), adding)
                    self.assertRaises(NoVault, Vault, medium, forest, plan, adding)
                    # A part of it may be there: it is begun once more.
                    medium.power(None)
                    vault = begun(medium, forest, plan, amounts, adding)
                    self.assertIs(type(vault), Vault)
                    self.assertEqual(medium.written(), many + len(writes))
                    self.cells_fit(medium, dict(writes), adding)
                medium = Medium()
                medium.power(len(writes))
                begun(medium, forest, plan, amounts, adding)
                self.cells_fit(medium, dict(writes), adding)
                self.assertRaises(NoVault, begun, medium, forest, plan, amounts, adding)

    def vault(self, forest, plan, amounts, adding):
        medium = Medium()
        return medium, begun(medium, forest, plan, amounts, adding)

    def test_power_that_fails_in_changes(self):
        below = chance(272)
        for kind in KINDS:
            adding = Adding(kind)
            for forest in self.forests(below):
                plan = some_plan(below, forest)
                amounts = tuple([adding.atom(below) for _ in forest.bearing])
                words = Words(forest, plan, amounts)
                changes = some_changes(below, forest, adding, words.amounts)
                before, writes = dict(words.to_begin()), words.to_change(changes)
                for many in range(len(writes) + 1):
                    medium, vault = self.vault(forest, plan, amounts, adding)
                    counted = medium.written()
                    medium.power(many)
                    if many < len(writes):
                        self.assertRaises(Stopped, vault.change_all, changes)
                    else:
                        self.assertIsNone(vault.change_all(changes))
                    self.assertEqual(medium.written(), counted + many)
                    right = {**before, **dict(writes[:many])}
                    self.cells_fit(medium, right, adding)
                    self.asks_fit(vault, words, right, adding)
                    self.recovers(below, medium, words, plan, adding, right)

    def recovers(self, below, medium, words, plan, adding, right):
        """Recovers a vault, with power that fails at each write of it, and looks at all that it tells then."""
        forest = words.forest
        due = right[DUE]
        writes = words.to_recover(due) if due else []
        for many in range(len(writes) + 1):
            vault = Vault(medium, forest, plan, adding) if below(2) else Vault(medium, forest, plan, Adding(adding.kind))
            counted = medium.written()
            medium.power(many)
            if due and many == 0:
                self.assertRaises(NotRecovered, vault.change_all, [])
                self.assertRaises(NotRecovered, vault.change_all, due)
                self.assertRaises(NoChanges, vault.change_all, [(0,)])
            if many < len(writes):
                self.assertRaises(Stopped, vault.recover)
            else:
                self.assertEqual(vault.recover(), due)
            right = {**right, **dict(writes[:many])}
            self.assertEqual(medium.written(), counted + many)
            self.cells_fit(medium, right, adding)
            self.asks_fit(vault, words, right, adding)
        self.assertEqual(right[DUE], ())
        self.assertEqual(vault.recover(), ())
        self.assertEqual(medium.written(), counted + many)
        amounts = {**words.amounts, **dict(due)} if due else {
            i: right[("amount", i)] for i in forest.bearing}
        for place in forest.asking:
            whole = [amounts[i] for i in forest.bearing if is_over(forest, i, place)]
            self.assertTrue(adding.is_right(vault.ask(place), whole))

    def test_long_lives_with_power_that_fails(self):
        below = chance(273)
        for kind in KINDS:
            for forest in self.forests(below) + [long_forest(below, 20), row(60)]:
                adding = Adding(kind)
                plan = some_plan(below, forest)
                amounts = tuple([adding.atom(below) for _ in forest.bearing])
                words = Words(forest, plan, amounts)
                medium, vault = self.vault(forest, plan, amounts, adding)
                for _ in range(25):
                    self.changed_whole_or_not(below, medium, words, plan, adding)

    def changed_whole_or_not(self, below, medium, words, plan, adding):
        """A change at some write of which power may fail; once it is recovered it is whole, or nothing of it is."""
        vault = Vault(medium, words.forest, plan, adding)
        changes = some_changes(below, words.forest, adding, words.amounts)
        medium.power(below(2 + len(words.to_change(changes))))
        try:
            vault.change_all(changes)
        except Stopped:
            pass
        while True:
            medium.power(below(4 + len(words.to_change(changes))))
            try:
                due = vault.recover()
                break
            except Stopped:
                vault = Vault(medium, words.forest, plan, adding)
        medium.power(None)
        held = medium.cells()
        whole = {**words.amounts, **dict(changes)}
        is_whole = all(held[("amount", i)] is amount for i, amount in whole.items())
        self.assertIn(tuple(due), (tuple(changes), ()))
        if is_whole:
            words.amounts = whole
        self.cells_fit(medium, dict(words.to_begin()), adding)

    def test_an_adding_that_raises_in_begun(self):
        adding = Adding("text")
        for calls in range(3):
            medium = Medium()
            medium.write(("amount", 0), "old")
            adding.left = calls
            self.assertRaises(Boom, begun, medium, row(3), (1, 1, 1), ("a", "b", "c"), adding)
            self.assertEqual((medium.written(), medium.cells()), (1, {("amount", 0): "old"}))
        adding.left = None
        self.assertEqual(begun(medium, row(3), (1, 1, 1), ("a", "b", "c"), adding).ask(2), "abc")

    def test_an_adding_that_raises_in_changes(self):
        # What is written ahead of it stays, nothing more is written: then it is recovered.
        for calls, many in ((0, 2), (1, 2), (2, 3)):
            adding = Adding("text")
            medium, vault = self.vault(row(3), (1, 1, 1), ("a", "b", "c"), adding)
            counted = medium.written()
            words = Words(row(3), (1, 1, 1), ("a", "b", "c"))
            writes = words.to_change([(0, "x")])
            adding.left = calls
            self.assertRaises(Boom, vault.change_all, [(0, "x")])
            right = {**dict(words.to_begin()), **dict(writes[:medium.written() - counted])}
            self.assertEqual(medium.written() - counted, many)
            self.cells_fit(medium, right, adding)
            adding.left = calls
            self.assertRaises(Boom, vault.recover)
            self.cells_fit(medium, right, adding)
            adding.left = 0
            self.assertEqual(Vault(medium, row(3), (1, 1, 1), adding).ask(0), "a")
            adding.left = None
            self.assertEqual(vault.recover(), ((0, "x"),))
            self.assertEqual([vault.ask(place) for place in range(3)], ["x", "xb", "xbc"])

    def test_an_adding_that_raises_in_ask(self):
        adding = Adding("text")
        _, vault = self.vault(S, (1, 2), ("a", "b"), adding)
        adding.left = 0
        self.assertRaises(Boom, vault.ask, 1)

    def test_all_is_read_from_the_medium(self):
        medium, vault = self.vault(S, (1, 2), ("a", "b"), joined)
        other = Vault(medium, S, (1, 2), joined)
        vault.change_all([(0, "x")])
        self.assertEqual((other.ask(1), vault.ask(1)), ("xb", "xb"))
        medium.write(("note", 1), "n")
        medium.write(("amount", 1), "m")
        self.assertEqual(vault.ask(1), "xn")
        vault.change_all(((1, "z"),))
        self.assertEqual(other.ask(1), "xz")
        medium.write(DUE, ((1, "w"),))
        self.assertRaises(NotRecovered, vault.change_all, [])
        self.assertEqual(other.recover(), ((1, "w"),))
        self.assertEqual(vault.ask(1), "xw")

    def test_changes_of_nothing(self):
        medium, vault = self.vault(S, (1, 2), ("a", "b"), joined)
        counted = medium.written()
        self.assertIsNone(vault.change_all([]))
        # What is due is written twice all the same: that nothing is, as told, and that it is done.
        self.assertEqual(medium.written() - counted, 2)
        self.assertEqual(vault.recover(), ())
        self.assertEqual(medium.written() - counted, 2)

    def test_what_is_told_is_new_or_as_it_was(self):
        medium, vault = self.vault(S, (1, 2), ("a", "b"), joined)
        medium.cells().clear()
        self.assertEqual(len(medium.cells()), 5)
        changes = [(1, "x")]
        vault.change_all(changes)
        self.assertEqual(changes, [(1, "x")])
        for other in (vault, medium, S, None, 0):
            self.assertIs(Medium() == other or Vault(medium, S, (1, 2), joined) == other, False)


class MediumTest(unittest.TestCase):

    def test_cells_and_writes(self):
        medium = Medium()
        self.assertEqual((medium.cells(), medium.written()), ({}, 0))
        for thing in (None, [], {}, "a", H):
            self.assertIsNone(medium.write("cell", thing))
            self.assertIs(medium.cells()["cell"], thing)
        medium.write((1, ("x", 2)), 3)
        self.assertEqual((sorted(map(str, medium.cells())), medium.written()), (["(1, ('x', 2))", "cell"], 6))

    def test_power(self):
        medium = Medium()
        self.assertIsNone(medium.power(2))
        medium.write(0, "a")
        medium.write(0, "b")
        for _ in range(2):
            self.assertRaises(Stopped, medium.write, 0, "c")
        self.assertEqual((medium.cells(), medium.written()), ({0: "b"}, 2))
        medium.power(0)
        self.assertRaises(Stopped, medium.write, 1, "c")
        medium.power(1)
        medium.power(1)
        medium.write(0, "d")
        self.assertRaises(Stopped, medium.write, 0, "e")
        medium.power(BIG)
        medium.write(0, "f")
        medium.power(None)
        for _ in range(5):
            medium.write(0, "g")
        self.assertEqual((medium.cells(), medium.written()), ({0: "g"}, 9))

    def test_no_number(self):
        medium = Medium()
        medium.power(1)
        for thing in odd_numbers() + [True, False, -1]:
            if thing is not None and thing != BIG:
                self.assertRaises(NoNumber, medium.power, thing)
        medium.write(0, 0)
        self.assertRaises(Stopped, medium.write, 0, 1)


class RefusedTest(unittest.TestCase):

    def test_begun_in_order(self):
        taken = Medium()
        begun(taken, S, (1, 2), ("a", "b"), joined)
        for odd in odd_things() + [(1,), (1, 3), [1, 1]]:
            self.assertRaises(NoPlan, begun, taken, S, odd, None, joined)
        for odd in odd_things() + [["a", "b"], ("a",), ("a", "b", "c"), "ab", ()]:
            if not (type(odd) is tuple and len(odd) == 2):
                self.assertRaises(NoAmounts, begun, taken, S, (1, 2), odd, joined)
        adding = Adding("text")
        adding.left = 0
        for cells in ([DUE], [("amount", 2)], [("note", 2)], [("note", 0), ("x",)], [0], [("amount",)], [("amount", 0, 0)],
                      ["due"], [("amount", -1)], [("amount", "0")], [None], [("Amount", 0)], [(("amount", 0),)]):
            medium = Medium()
            for cell in cells:
                medium.write(cell, ())
            medium.power(0)
            self.assertRaises(NoVault, begun, medium, S, (1, 1), ("a", "b"), adding)
            self.assertEqual(medium.written(), len(cells))
        # A note of this place is there by one plan, not by the other one.
        forest = Forest((None, 0), (1,), (1,))
        medium = Medium()
        medium.write(("note", 0), "x")
        self.assertRaises(NoVault, begun, medium, forest, (1, 2), ("a",), joined)
        medium = Medium()
        medium.write(("note", 1), "x")
        self.assertEqual(begun(medium, forest, (1, 2), ("a",), joined).ask(1), "a")

    def test_vault_in_order(self):
        empty = Medium()
        for odd in odd_things() + [(1,), (1, 3), [1, 1]]:
            self.assertRaises(NoPlan, Vault, empty, S, odd, joined)
        right = {("amount", 0): "a", ("amount", 1): "b", ("note", 0): "a", ("note", 1): "b", DUE: ()}
        self.assertEqual(Vault(self.medium(right), S, (1, 2), joined).ask(1), "ab")
        self.assertRaises(NoVault, Vault, empty, S, (1, 2), joined)
        for cell in right:
            self.refused({other: right[other] for other in right if other != cell})
        for cell in (("amount", 2), ("note", 2), ("x",), 0, None, "due", ("due", 0), ("note", -1), ("note", "0")):
            self.refused({**right, cell: ()})
            self.refused({**{other: right[other] for other in right if other != ("note", 1)}, cell: "b"})
        self.assertRaises(NoVault, Vault, self.medium(right), row(3), (1, 2, 3), joined)
        self.assertRaises(NoVault, Vault, self.medium(right), Forest((None, 0), (0, 1), (0,)), (1, 2), joined)
        self.assertRaises(NoVault, Vault, self.medium(right), LONE, (1,), joined)

    def medium(self, cells):
        medium = Medium()
        for cell, thing in cells.items():
            medium.write(cell, thing)
        return medium

    def refused(self, cells):
        self.assertRaises(NoVault, Vault, self.medium(cells), S, (1, 2), joined)

    def test_due_that_holds_no_changes(self):
        right = {("amount", 0): "a", ("amount", 1): "b", ("note", 0): "a", ("note", 1): "b"}
        wrong = [[], [(0, "x")], ((0, "x"), (0, "y")), ((2, "x"),), ((True, "x"),), ([0, "x"],), ((0,),), None, "", 0, {},
                 ((0, "x", "y"),), (0, "x"), nested(40, "tuple"), ((0, "x"),) * 61]
        for odd in odd_things():
            wrong += [odd, (odd,)] + spoiled(((0, "x"), (1, "y")), odd)
        for thing in wrong:
            if type(thing) is tuple and are_changes(S, thing):
                self.assertEqual(Vault(self.medium({**right, DUE: thing}), S, (1, 2), joined).ask(0), "a")
            else:
                self.refused({**right, DUE: thing})
        vault = Vault(self.medium({**right, DUE: ((1, "y"), (0, "x"))}), S, (1, 2), joined)
        self.assertEqual((vault.ask(1), vault.recover(), vault.ask(1)), ("ab", ((1, "y"), (0, "x")), "xy"))

    def test_no_changes_and_no_places(self):
        medium = Medium()
        vault = begun(medium, MIXED, (1,) * 6, ("a",) * 4, joined)
        before = (medium.cells(), medium.written())
        wrong = [[(0, "x"), (0, "y")], [(3, "x")], [(True, "x")], [[0, "x"]], [(0,)], {0: "x"}, {}, "", None, 0, range(0),
                 [(0, "x")] * 61]
        for odd in odd_things():
            wrong += [odd, [odd]] + spoiled([(0, "x"), (4, "y")], odd)
        for thing in wrong:
            if not are_changes(MIXED, thing):
                self.assertRaises(NoChanges, vault.change_all, thing)
        for thing in odd_numbers() + [1, 5, 6]:
            self.assertRaises(NoPlace, vault.ask, thing)
        self.assertEqual((medium.cells(), medium.written()), before)
        medium.write(DUE, ((0, "x"),))
        self.assertRaises(NoChanges, vault.change_all, [(3, "x")])
        self.assertRaises(NotRecovered, vault.change_all, [(0, "y")])
        self.assertEqual(medium.written(), before[1] + 1)
        for thing in ([[0, []]], [(0, [])], {0: [0]}):
            held = copy.deepcopy(thing)
            for method in (vault.change_all, vault.ask):
                self.assertRaises((NoChanges, NotRecovered, NoPlace), method, thing)
            self.assertEqual(thing, held)


class SeenTest(unittest.TestCase):

    def fits(self, forest, plan):
        notes = placed_notes(forest, plan)
        for place in forest.bearing:
            holding = [s for s in sorted(notes, reverse=True) if place in notes[s][0]]
            for many in range(len(holding) + 1):
                told = seen(forest, plan, place, many)
                self.assertIs(type(told), tuple)
                self.assertEqual(told, tuple(sorted({j for s in holding[:many] for j in notes[s][1]})))
                for j in told:
                    self.assertTrue(all(other in told for other in forest.asking if is_over(forest, j, other)))
            self.assertEqual(told, tuple([j for j in forest.asking if is_over(forest, place, j)]))
            for many in (len(holding) + 1, -1, BIG):
                self.assertRaises(NoNumber, seen, forest, plan, place, many)

    def test_by_the_words(self):
        below = chance(274)
        for forest in list(full_forests(4)) + [MIXED, LONE, row(5)]:
            for plan in plans_by_words(forest):
                self.fits(forest, plan)
        for forest in [row(60), long_forest(below, 60)] + [some_forest(below, 1 + below(40)) for _ in range(30)]:
            self.fits(forest, some_plan(below, forest))

    def test_what_asks_tell_between_writes(self):
        below = chance(275)
        for forest in (H, MIXED, row(5), long_forest(below, 8)):
            plan = some_plan(below, forest)
            for place in forest.bearing:
                amounts = tuple(["o"] * len(forest.bearing))
                for many in range(len([s for s in placed_notes(forest, plan).values() if place in s[0]]) + 1):
                    medium = Medium()
                    vault = begun(medium, forest, plan, amounts, joined)
                    medium.power(2 + many)
                    self.assertRaises(Stopped, vault.change_all, [(place, "n")])
                    told = tuple([j for j in forest.asking if "n" in (vault.ask(j) or "")])
                    self.assertEqual(told, seen(forest, plan, place, many))

    def test_errors_in_their_order(self):
        for odd in odd_things() + [(1,), (1, 3), [1, 1]]:
            self.assertRaises(NoPlan, seen, S, odd, 0, 0)
            self.assertRaises(NoPlan, seen, S, odd, None, None)
        for odd in odd_numbers() + [3, 5, 6]:
            self.assertRaises(NoPlace, seen, MIXED, (1,) * 6, odd, 0)
            self.assertRaises(NoPlace, seen, MIXED, (1,) * 6, odd, -1)
        for odd in odd_numbers() + [3]:
            self.assertRaises(NoNumber, seen, S, (1, 1), 0, odd)
        # A place under which nothing asks has no notes.
        self.assertEqual(seen(Forest((None, 0), (0, 1), (0,)), (1, 1), 1, 0), ())
        self.assertRaises(NoNumber, seen, Forest((None, 0), (0, 1), (0,)), (1, 1), 1, 1)


if __name__ == "__main__":
    unittest.main()
