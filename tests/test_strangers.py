"""[10.1], with [0.2] to [0.4] as far as they touch strangers."""

import unittest

from cutnotes.errors import NoAnswer
from cutnotes.forests import Forest, row
from cutnotes.notes import is_single
from cutnotes.strangers import told_notes, wrong_pair
from common import (
    BIG, H, LONE, MIXED, S, chance, full_forests, is_over, long_forest, nested, notes_by_words, odd_things,
    pairs_by_words, plans_by_words, small_forests, some_forest, some_keeper, some_plan)


class Stranger:
    """Tells labels out of two dicts, and remembers what it was asked."""

    def __init__(self, touched, read):
        self.touched = touched
        self.read = read
        self.heard = []

    def touching(self, place):
        self.heard.append(("touching", place))
        return self.touched[place]

    def reading(self, place):
        self.heard.append(("reading", place))
        return self.read[place]


def labels_of(forest, notes, labels):
    """The two dicts of a stranger that has these notes, with a label for each."""
    touched = {i: tuple(sorted([label for label, note in zip(labels, notes) if i in note[0]])) for i in forest.bearing}
    read = {j: tuple(sorted([label for label, note in zip(labels, notes) if j in note[1]])) for j in forest.asking}
    return touched, read


def told_by_words(forest, touched, read):
    seen = {label for i in forest.bearing for label in touched[i]}
    labels = sorted(seen & {label for j in forest.asking for label in read[j]})
    return (tuple(labels), tuple([(tuple([i for i in forest.bearing if label in touched[i]]),
                                   tuple([j for j in forest.asking if label in read[j]])) for label in labels]))


def wrong_by_words(forest, touched, read):
    for i in forest.bearing:
        for j in forest.asking:
            if len(set(touched[i]) & set(read[j])) != (1 if is_over(forest, i, j) else 0):
                return (i, j)
    return None


class StrangersTest(unittest.TestCase):

    def fits(self, forest, touched, read):
        right = [("touching", i) for i in forest.bearing] + [("reading", j) for j in forest.asking]
        for function, by_words in ((told_notes, told_by_words), (wrong_pair, wrong_by_words)):
            stranger = Stranger(dict(touched), dict(read))
            told = function(forest, stranger.touching, stranger.reading)
            self.assertEqual(told, by_words(forest, touched, read))
            self.assertEqual(stranger.heard, right)
            self.assertEqual((stranger.touched, stranger.read), (touched, read))
            if told is not None:
                self.assertEqual([type(part) for part in (told,) + told[:1] + told[1:] if function is told_notes],
                                 [tuple] * 3 if function is told_notes else [])
        return told

    def labels(self, below, many):
        """Unlike labels by chance, less than 0 and large ones, too."""
        found = {below(2 * many + 3) - many if below(5) else (below(many + 2) - 3) * 10 ** 40 for _ in range(many)}
        while len(found) < many:
            found.add(below(10 ** 6))
        return sorted(found, key=lambda label: (label * 7919) % 1009)

    def test_notes_of_plans(self):
        below = chance(221)
        for forest in list(small_forests(2)) + list(full_forests(4)) + [H, MIXED, S, LONE]:
            for plan in plans_by_words(forest):
                notes = notes_by_words(forest, plan)
                touched, read = labels_of(forest, notes, self.labels(below, len(notes)))
                self.assertIsNone(self.fits(forest, touched, read))
                told = told_notes(forest, touched.get, read.get)
                self.assertEqual(sorted(told[1]), sorted(notes))

    def test_notes_of_large_forests(self):
        below = chance(222)
        for forest in (row(60), long_forest(below, 60), some_forest(below, 60), Forest((None,) * 60, (0, 59), (59,))):
            for _ in range(2):
                notes = notes_by_words(forest, some_plan(below, forest))
                self.assertIsNone(self.fits(forest, *labels_of(forest, notes, self.labels(below, len(notes)))))

    def test_keepers_that_overlap(self):
        below = chance(223)
        wrong = 0
        for _ in range(120):
            forest = (H, MIXED, row(4), long_forest(below, 6))[below(4)]
            notes = some_keeper(below, forest, 2 + below(9))
            told = self.fits(forest, *labels_of(forest, notes, self.labels(below, len(notes))))
            # Notes by labels are all of these, so they tell whether the keeper is single.
            self.assertIs(told is None, is_single(forest, notes))
            wrong += told is not None
        self.assertGreater(wrong, 50)

    def test_a_label_more_or_fewer_or_exchanged(self):
        below = chance(224)
        for _ in range(400):
            forest = (H, MIXED, row(3), row(5), some_forest(below, 7))[below(5)]
            notes = notes_by_words(forest, some_plan(below, forest))
            sides = labels_of(forest, notes, list(range(len(notes))))
            side = sides[below(2)]
            if not side:
                continue
            place = sorted(side)[below(len(side))]
            labels = set(side[place])
            change = below(3)
            if change and labels:
                labels.discard(sorted(labels)[below(len(labels))])
            if change != 1:
                labels.add(below(len(notes) + 2))
            side[place] = tuple(sorted(labels))
            self.fits(forest, *sides)

    def test_labels_that_one_side_alone_has(self):
        touched = {0: (-5, 1, 7), 1: (1, 7, 9)}
        read = {0: (2, 3), 1: (1, 4)}
        self.assertEqual(self.fits(S, touched, read), (0, 0))
        self.assertEqual(told_notes(S, touched.get, read.get), ((1,), (((0, 1), (1,)),)))
        self.assertEqual(told_notes(S, lambda place: (), lambda place: (3,)), ((), ()))
        self.assertEqual(wrong_pair(S, lambda place: (), lambda place: (3,)), (0, 0))
        self.assertEqual(told_notes(LONE, None, None), ((), ()))
        self.assertIsNone(wrong_pair(LONE, None, None))
        # What they have in common need be no note: 1 is not over 0.
        self.assertEqual(self.fits(S, {0: (0,), 1: (0,)}, {0: (0,), 1: (0,)}), (1, 0))
        self.assertEqual(told_notes(S, lambda place: (0,), lambda place: (0,)), ((0,), (((0, 1), (0, 1)),)))

    def test_many_labels(self):
        many = tuple(range(20000))
        self.assertEqual(wrong_pair(S, lambda place: many, lambda place: ()), (0, 0))
        labels, notes = told_notes(S, lambda place: many, lambda place: (0, 19999, 20000))
        self.assertEqual((labels, notes), ((0, 19999), (((0, 1), (0, 1)),) * 2))
        # More than 200 notes that are a single keeper: the labels of one pair alone.
        forest = row(20)
        served = pairs_by_words(forest)
        self.assertIsNone(self.fits(forest, *labels_of(forest, [((i,), (j,)) for i, j in served],
                                                       list(range(len(served))))))

    def test_no_answer(self):
        wrong = [answer for answer in odd_things() if answer != (-1, 0)] + [
            (BIG, 0), (1, 0), (0, 0), (True,), (0, True), [0], [], (0, None), ("a",), None, 0, (0, nested(39, "tuple"))]
        for answer in wrong:
            for forest in (S, MIXED):
                for place in forest.bearing:
                    self.refused(forest, {place: answer}, {}, place)
                    self.refused(forest, {place: answer, forest.bearing[-1]: answer}, {0: answer}, place)
                for place in forest.asking:
                    self.refused(forest, {}, {place: answer, forest.asking[-1]: answer}, place)

    def refused(self, forest, touched, read, place):
        for function in (told_notes, wrong_pair):
            with self.assertRaises(NoAnswer) as caught:
                function(forest, lambda i: touched.get(i, (3,)), lambda j: read.get(j, ()))
            self.assertEqual(caught.exception.place, place)

    def test_errors_of_the_stranger_go_on(self):
        def failing(place):
            raise KeyError("mine")
        for function in (told_notes, wrong_pair):
            self.assertRaises(KeyError, function, S, failing, lambda place: ())
            self.assertRaises(KeyError, function, S, lambda place: (), failing)


if __name__ == "__main__":
    unittest.main()
