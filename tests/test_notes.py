"""[2.1], with [0.2] to [0.4] as far as they touch notes."""

import copy
import unittest

from cutnotes.errors import NoNotes
from cutnotes.forests import Forest, row
from cutnotes.notes import is_keeper, is_single, lacking, point, twice
from common import BIG, H, LONE, MIXED, S, chance, is_over, odd_things, pairs_by_words, spoiled

SINGLE = [((0,), (0, 1)), ((1,), (1,))]
DOUBLE = [((0,), (0, 1)), ((0, 1), (1,))]
HALF = [((0,), (0, 1))]
MIXED_NOTES = [((0, 1), (3, 4)), ((2,), (2,)), ((0,), (0,)), ((4,), (4,))]


class NotesTest(unittest.TestCase):

    def refused(self, forest, thing):
        for function in (lacking, twice, point):
            self.assertRaises(NoNotes, function, forest, thing)
        for judge in (is_keeper, is_single):
            self.assertIs(judge(forest, thing), False)

    def told(self, forest, notes, short, again, counts):
        for thing in (list(notes), tuple(notes), list(notes)[::-1]):
            self.assertEqual(lacking(forest, thing), short)
            self.assertEqual(twice(forest, thing), again)
            self.assertEqual(point(forest, thing), counts)
            self.assertIs(is_keeper(forest, thing), short is None)
            self.assertIs(is_single(forest, thing), short is None and again is None)

    def test_keepers_and_others(self):
        self.told(S, SINGLE, None, None, ((1, 1), (1, 2)))
        self.told(S, DOUBLE, None, (0, 1), ((2, 1), (1, 2)))
        self.told(S, HALF, (1, 1), None, ((1, 0), (1, 1)))
        self.told(S, HALF * 2, (1, 1), (0, 0), ((2, 0), (2, 2)))
        self.told(S, [((1,), (1,))], (0, 0), None, ((0, 1), (0, 1)))
        self.told(S, SINGLE * 2, None, (0, 0), ((2, 2), (2, 4)))
        self.told(MIXED, MIXED_NOTES, None, None, ((2, 1, 1, 0, 1, 0), (1, 0, 1, 1, 2, 0)))
        self.told(MIXED, MIXED_NOTES[1:], (0, 3), None, ((1, 0, 1, 0, 1, 0), (1, 0, 1, 0, 1, 0)))
        self.told(row(3), [((0, 1), (1, 2)), ((0,), (0,)), ((2,), (2,)), ((1,), (1, 2))],
                  None, (1, 1), ((2, 2, 1), (1, 2, 3)))

    def test_empty_notes(self):
        self.told(S, [], (0, 0), None, ((0, 0), (0, 0)))
        self.told(LONE, [], None, None, ((0,), (0,)))
        self.told(Forest((None, 0), (1,), (0,)), (), None, None, ((0, 0), (0, 0)))

    def test_200_and_201_notes(self):
        many = [((0,), (0,))] * 199 + [((0, 1), (1,))]
        self.told(S, many, None, (0, 0), ((200, 1), (199, 1)))
        self.told(S, [((0,), (0, 1))] * 200, (1, 1), (0, 0), ((200, 0), (200, 200)))
        self.refused(S, many + [((1,), (1,))])
        self.refused(S, tuple(SINGLE) * 100 + (((1,), (1,)),))

    def test_results_are_tuples(self):
        counts = point(S, SINGLE)
        for value in (counts, counts[0], counts[1], lacking(S, []), twice(S, SINGLE * 2)):
            self.assertIs(type(value), tuple)

    def test_notes_that_are_none(self):
        for note in (
                ((), (0,)), ((0,), ()), ((), ()), ((1, 0), (1,)), ((0,), (1, 0)), ((0, 0), (0,)),
                ((0,), (1, 1)), ([0], (0,)), ((0,), [0]), [(0,), (0,)], ((0,),), ((0,), (0,), (0,)), (),
                ((1,), (0,)), ((0, 1), (0,)), ((0, 1), (0, 1)), ((-1,), (0,)), ((0,), (2,)), ((2,), (1,)),
                ((0,), (0, BIG)), ((-BIG, 0), (0,)), ((0, -1), (1,)), ((True,), (1,)), ((False,), (0,)),
                ((0,), (True,)), ((0,), (0, True)), ((False, 1), (1,)), (0, 0), ((0,), 0), (0, (0,)),
                ((0,), "0"), ("0", "1"), b"\x00\x00", "01", {(0,): (0,)}, {0: (0,), 1: (0,)},
                ((None,), (0,)), (((0,),), (0,)), ((0,), tuple(range(9000))), (tuple(range(9000)), (1,))):
            for notes in ([note], (note,), SINGLE + [note], [note] + SINGLE):
                self.refused(S, notes)

    def test_places_that_do_not_bear_and_asks_that_do_not_ask(self):
        self.told(MIXED, [((0, 1), (3,))], (0, 0), None, ((1, 1, 0, 0, 0, 0), (0, 0, 0, 1, 0, 0)))
        self.refused(MIXED, [((3,), (3,))])
        self.refused(MIXED, [((0, 3), (3,))])
        self.refused(MIXED, [((0,), (0, 1))])
        self.refused(MIXED, [((1,), (1,))])
        self.refused(MIXED, [((0,), (2,))])
        self.refused(MIXED, [((0, 2), (3,))])
        self.refused(MIXED, [((1, 4), (3, 4))])
        self.refused(MIXED, [((2,), (2, 5))])
        self.refused(LONE, [((0,), (0,))])

    def test_odd_things_in_each_place(self):
        for odd in odd_things():
            for notes in (SINGLE, tuple(SINGLE), DOUBLE):
                for thing in spoiled(notes, odd):
                    self.refused(S, thing)

    def test_each_pair_of_lots_is_a_note_by_the_words(self):
        lots = [(), (0,), (1,), (2,), (3,), (0, 1), (0, 2), (0, 3), (1, 3), (0, 1, 3), (0, 1, 2, 3), (1, 2)]
        for forest in (H, Forest(H.parents, (0, 1), (1, 2, 3)), Forest((None, None, 0, 2), (0, 2), (2, 3))):
            for places in lots:
                for asks in lots:
                    right = bool(places and asks) and all(
                        i in forest.bearing and j in forest.asking and is_over(forest, i, j)
                        for i in places for j in asks)
                    if right:
                        self.assertEqual(sum(point(forest, [(places, asks)])[0]), len(places))
                    else:
                        self.refused(forest, [(places, asks)])

    def test_by_the_words_over_many_notes(self):
        below = chance(2)
        for forest in (H, S, MIXED, row(4)):
            told = pairs_by_words(forest)
            notes_there = [((i,), (j,)) for i, j in told]
            notes_there += [note for note in (((0,), (0, 1)), ((0, 1), (1,)), ((0, 1), (1, 3)), ((0, 1), (3,)))
                            if all((i, j) in told for i in note[0] for j in note[1])]
            for _ in range(300):
                notes = [notes_there[below(len(notes_there))] for _ in range(below(14))]
                times = {pair: sum(pair[0] in a and pair[1] in b for a, b in notes) for pair in told}
                short = [pair for pair in told if times[pair] == 0]
                again = [pair for pair in told if times[pair] > 1]
                everywhere = range(len(forest.parents))
                counts = (tuple([sum(i in a for a, b in notes) for i in everywhere]),
                          tuple([sum(j in b for a, b in notes) for j in everywhere]))
                self.told(forest, notes, short[0] if short else None, again[0] if again else None, counts)

    def test_nothing_passed_is_changed(self):
        for notes in (list(DOUBLE), tuple(DOUBLE), [[[0], [1]], {0: [1]}], ([(0,), [1]],)):
            before = copy.deepcopy(notes)
            for judge in (is_keeper, is_single):
                judge(S, notes)
            for function in (lacking, twice, point):
                try:
                    function(S, notes)
                except NoNotes:
                    pass
            self.assertEqual(notes, before)
        self.assertEqual(S, row(2))


if __name__ == "__main__":
    unittest.main()
