"""[16.1], with [0.2] to [0.5] as far as they touch texts."""

import copy
import unittest
from itertools import product

from cutnotes.errors import BadForest, BadText, NoNotes, NoPlan
from cutnotes.forests import Forest, row
from cutnotes.plans import is_plan, notes_of
from cutnotes.reading import read_forest, read_notes, read_plan
from cutnotes.texts import forest_text, notes_text, plan_text
from common import (
    BIG, H, LONE, MIXED, S, all_notes, chance, full_forests, long_forest, odd_things, plans_by_words, small_forests,
    some_forest, some_keeper, some_plan, spoiled)

NOTES = [((0,), (0, 1)), ((1,), (1,))]
NUMBERS = ("0", "1", "7", "10", "59", "123456789")
NO_NUMBERS = ("", "00", "01", "+1", "-1", "1234567890", "0000000001", "1.", "1e2", "x", "--", "1_0", "0x1", "\t1", "~")


def forest_text_by_words(forest):
    text = ""
    for place, parent in enumerate(forest.parents):
        text += "-" if parent is None else str(parent)
        text += " b" * (place in forest.bearing) + " a" * (place in forest.asking) + "\n"
    return text


class TextsTest(unittest.TestCase):

    def test_forests_there_and_back(self):
        below = chance(261)
        forests = list(small_forests(3)) + list(full_forests(5)) + [
            H, MIXED, LONE, row(60), long_forest(below, 60), Forest((None,) * 60, (), (59,))]
        for forest in forests + [some_forest(below, 1 + below(60)) for _ in range(60)]:
            text = forest_text(forest)
            self.assertEqual(text, forest_text_by_words(forest))
            self.assertEqual(read_forest(text), forest)
            self.assertIs(type(read_forest(text)), Forest)
        self.assertEqual(forest_text(H), "- b a\n0 b a\n0 b a\n1 b a\n")
        self.assertEqual(forest_text(MIXED), "- b a\n0 b\n- b a\n1 a\n1 b a\n2\n")

    def test_plans_there_and_back(self):
        below = chance(262)
        for forest in list(full_forests(4)) + [LONE, MIXED]:
            for plan in plans_by_words(forest):
                self.plan_comes_back(forest, plan)
        for forest in (row(60), long_forest(below, 60), some_forest(below, 60)):
            for _ in range(5):
                self.plan_comes_back(forest, some_plan(below, forest))
        self.plan_comes_back(row(60), tuple(range(1, 61)))
        self.assertEqual(plan_text(H, (1, 1, 2, 2)), "1 1 2 2\n")
        self.assertEqual(plan_text(LONE, (1,)), "1\n")

    def plan_comes_back(self, forest, plan):
        text = plan_text(forest, plan)
        self.assertEqual(text, " ".join(map(str, plan)) + "\n")
        self.assertEqual(read_plan(forest, text), plan)
        self.assertIs(type(read_plan(forest, text)), tuple)

    def test_notes_there_and_back(self):
        below = chance(263)
        for forest in (S, H, MIXED, row(5), row(60), some_forest(below, 40)):
            for _ in range(10):
                notes = list(notes_of(forest, some_plan(below, forest)))
                self.notes_come_back(forest, notes)
                self.notes_come_back(forest, notes[::-1] + notes[:3])
                self.notes_come_back(forest, some_keeper(below, forest, 12))
        for forest in (S, Forest((None, 0, 0), (0, 2), (0, 1, 2))):
            for one, other in product(all_notes(forest), repeat=2):
                self.notes_come_back(forest, (one, other))
        self.notes_come_back(S, NOTES * 100)
        for forest in (S, LONE):
            self.notes_come_back(forest, [])
        self.assertEqual(notes_text(S, NOTES), "0 : 0,1\n1 : 1\n")
        self.assertEqual((notes_text(S, ()), read_notes(S, "")), ("", ()))

    def notes_come_back(self, forest, notes):
        text = "".join([",".join(map(str, a)) + " : " + ",".join(map(str, b)) + "\n" for a, b in notes])
        for thing in (list(notes), tuple(notes)):
            self.assertEqual(notes_text(forest, thing), text)
        self.assertEqual(read_notes(forest, text), tuple(notes))
        self.assertIs(type(read_notes(forest, text)), tuple)

    def test_no_plan_and_no_notes_have_no_text(self):
        for odd in odd_things():
            self.assertRaises(NoPlan, plan_text, S, odd)
            self.assertRaises(NoNotes, notes_text, LONE, odd)
            for thing in spoiled((1, 2), odd):
                self.assertRaises(NoPlan, plan_text, S, thing)
            for thing in spoiled(NOTES, odd):
                self.assertRaises(NoNotes, notes_text, S, thing)
        for thing in ((1,), (1, 3), (0, 1), [1, 1], (1, 1, 1), (True, 1)):
            self.assertRaises(NoPlan, plan_text, S, thing)
        self.assertRaises(NoNotes, notes_text, S, NOTES * 101)
        self.assertRaises(NoNotes, notes_text, S, [((1,), (0,))])

    def test_nothing_passed_is_changed(self):
        notes = list(NOTES)
        notes_text(S, notes)
        self.assertEqual(notes, NOTES)
        wrong = [[[0], [1]]]
        before = copy.deepcopy(wrong)
        self.assertRaises(NoNotes, notes_text, S, wrong)
        self.assertRaises(NoPlan, plan_text, S, wrong)
        self.assertEqual(wrong, before)


class ReadingTest(unittest.TestCase):

    def bad(self, line, function, *arguments):
        with self.assertRaises(BadText) as caught:
            function(*arguments)
        self.assertEqual(caught.exception.line, line, arguments)

    def test_no_strings(self):
        for thing in odd_things() + [b"- b a\n", 0, ["-\n"], ("-\n",)]:
            if not isinstance(thing, str):
                self.bad(0, read_forest, thing)
                self.bad(0, read_plan, S, thing)
                self.bad(0, read_notes, S, thing)

    def test_lines_of_forests(self):
        right = [word + marks for word in ("-",) + NUMBERS for marks in ("", " b", " a", " b a")]
        wrong = [word + marks for word in NO_NUMBERS for marks in ("", " b", " b a")]
        wrong += ["- a b", "- b b", "- a a", "- b a b", "-b", "- ba", "-  b", " -", "- ", "- b ", "- b  a", "- B", "- A",
                  "- c", "0b a", "0 0", "- -", "0, b", "0\tb", "- b\ta", "-\t", "0 : 1", "- b a a", "b", "a", "b a"]
        self.lines_fit(right, wrong, read_forest, "- b a")

    def lines_fit(self, right, wrong, read, good):
        """Lines of the form are read, whatever comes of them; others are named as the first wrong ones."""
        for line in right:
            for ahead in (0, 1, 3):
                try:
                    read((good + "\n") * ahead + line + "\n")
                except (BadForest, NoPlan, NoNotes):
                    pass
        for line in wrong:
            for ahead in (0, 1, 3):
                before = (good + "\n") * ahead
                for behind in ("\n", "\n" + good + "\n", "\n" + good, "\n\n", "\nx\n", "\n" + line):
                    self.bad(ahead + 1, read, before + line + behind)
                if line:
                    self.bad(ahead + 1, read, before + line)
        for ahead in (1, 2, 5):
            for line in right + wrong:
                if line:
                    self.bad(ahead + 1, read, (good + "\n") * ahead + line)

    def test_lines_of_plans(self):
        forest = row(4)
        right = [" ".join(words) for many in (1, 2, 3) for words in product(NUMBERS, repeat=many)]
        wrong = [" ".join(words) for word in NO_NUMBERS for words in ((word,), ("1", word), (word, "1"), ("1", word, "1"))]
        wrong += ["", " ", "1  2", " 1", "1 ", "1,2", "1\t2", "1 2 -", "1 : 2", "1;2", "-"]
        for line in right:
            try:
                self.assertEqual(read_plan(forest, line + "\n"), tuple(map(int, line.split())))
            except NoPlan:
                self.assertIs(is_plan(forest, tuple(map(int, line.split()))), False)
            for behind in (line, "\n", line + "\n", "1 2\n3", "x", " ", "\n\n\n"):
                self.bad(2, read_plan, forest, line + "\n" + behind)
            self.bad(1, read_plan, forest, line)
        for line in wrong:
            for behind in ("\n", "\n1 1 1 1\n", "", "\n1", "\n\n"):
                self.bad(1, read_plan, forest, line + behind)

    def test_lines_of_notes(self):
        lots = [",".join(words) for many in (1, 2) for words in product(NUMBERS, repeat=many)]
        right = [one + " : " + other for one in lots for other in lots[::7]]
        wrong = [form.format(word) for word in NO_NUMBERS for form in (
            "{} : 1", "1 : {}", "0,{} : 1", "{},1 : 1", "0 : 0,{}", "0 : {},1", "0,{},1 : 1")]
        wrong += ["", " ", ":", " : ", "0", "0 1", "0: 1", "0 :1", "0:1", "0  : 1", "0 :  1", " 0 : 1", "0 : 1 ", "0, 1 : 1",
                  "0 : 0, 1", "0 ,1 : 1", "0 1 : 1", "0 : 0 1", "0 : 1 : 1", "0 ; 1", "0 : 1;", "0\t:\t1", "0 : 1,",
                  ",0 : 1", "0,,1 : 1", "0 : 0,,1", "0 = 1", "0 :: 1", "0 : : 1"]
        self.lines_fit(right, wrong, lambda text: read_notes(S, text), "0 : 1")

    def test_texts_without_lines(self):
        for read in (read_forest, lambda text: read_plan(S, text)):
            self.bad(1, read, "")
            for many in (1, 2, 60):
                self.bad(1, read, "\n" * many)
            self.bad(1, read, " ")
        self.assertEqual(read_notes(S, ""), ())
        for text in ("\n", "\n\n\n", " ", "0", "0 : 1"):
            self.bad(1, read_notes, S, text)
        self.bad(2, read_notes, S, "0 : 0\n0 : 1")
        self.bad(3, read_forest, "-\n0\n\n")
        self.bad(3, read_forest, "-\n0\n0")

    def test_bad_text_ahead_of_what_it_tells(self):
        self.bad(2, read_forest, "7 b\nx\n")
        self.bad(63, read_forest, "-\n" * 62 + "x\n")
        self.bad(62, read_forest, "-\n" * 61 + "-")
        self.bad(2, read_plan, S, "7 7\n\n")
        self.bad(2, read_notes, S, "7 : 7\n\n")
        self.bad(202, read_notes, S, "0 : 0\n" * 201 + "0")

    def test_texts_of_the_form_that_tell_no_forest(self):
        for text, at in (("0\n", 0), ("-\n1\n", 1), ("-\n0 b\n999999999 a\n", 2), ("-\n-\n2\n3\n", 2),
                         ("-\n" * 61, -1), ("-\n" * 3000, -1), ("5\n" * 61, -1)):
            with self.assertRaises(BadForest) as caught:
                read_forest(text)
            self.assertEqual((caught.exception.part, caught.exception.at), ("parents", at))
        self.assertEqual(read_forest("-\n" * 60).parents, (None,) * 60)

    def test_texts_of_the_form_that_tell_no_plan(self):
        for text in ("1\n", "1 1 1\n", "0 0\n", "1 3\n", "2 1\n", "1 0\n", "1 999999999\n", "1 " * 2999 + "1\n"):
            self.assertRaises(NoPlan, read_plan, S, text)
        self.assertEqual(read_plan(S, "1 2\n"), (1, 2))

    def test_texts_of_the_form_that_tell_no_notes(self):
        for text in ("1 : 0\n", "0,1 : 0\n", "1,0 : 1\n", "0 : 1,0\n", "0,0 : 1\n", "0 : 2\n", "2 : 2\n",
                     "0 : 999999999\n", "0 : 0\n" * 201, "0 : 0\n1 : 0\n", "0 : 0\n" * 3000):
            self.assertRaises(NoNotes, read_notes, S, text)
        self.assertRaises(NoNotes, read_notes, LONE, "0 : 0\n")
        self.assertEqual(read_notes(S, "0 : 0\n" * 200), (((0,), (0,)),) * 200)

    def test_spoiled_texts(self):
        # Each sign taken out, doubled, or exchanged: what is read at all is read as the words say.
        below = chance(264)
        for text in (forest_text(MIXED), forest_text(H)):
            for spoilt in self.spoilt(text):
                try:
                    self.assertEqual(forest_text(read_forest(spoilt)), spoilt)
                except (BadText, BadForest):
                    pass
        for spoilt in self.spoilt("0,1 : 1\n0 : 0,1\n1 : 1\n"):
            try:
                self.assertEqual(notes_text(S, read_notes(S, spoilt)), spoilt)
            except (BadText, NoNotes):
                pass
        for spoilt in self.spoilt(plan_text(row(12), some_plan(below, row(12)))):
            try:
                self.assertEqual(plan_text(row(12), read_plan(row(12), spoilt)), spoilt)
            except (BadText, NoPlan):
                pass

    def spoilt(self, text):
        for at in range(len(text)):
            yield text[:at] + text[at + 1:]
            for sign in "\n\t 01a-b:,+~" + text[at]:
                yield text[:at] + sign + text[at:]
                yield text[:at] + sign + text[at + 1:]
        yield text[:-1]
        yield text + text
        yield text + str(BIG)


if __name__ == "__main__":
    unittest.main()
