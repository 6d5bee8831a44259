"""[1.1], [1.2], with [0.2] to [0.4] as far as they touch forests."""

import copy
import unittest

from cutnotes.errors import BadForest, NoNumber, NoPlace
from cutnotes.forests import Forest, is_row, pairs, row, under, way
from common import (
    BIG, H, LONE, MIXED, S, chance, is_over, long_forest, nested, odd_numbers, odd_things,
    pairs_by_words, small_forests, some_forest)


class ForestTest(unittest.TestCase):

    def refused(self, parents, bearing, asking, part, at):
        with self.assertRaises(BadForest) as caught:
            Forest(parents, bearing, asking)
        self.assertEqual((caught.exception.part, caught.exception.at), (part, at))
        self.assertIs(type(caught.exception.at), int)

    def test_attributes(self):
        forest = Forest((None, 0, None, 1), (0, 3), (1, 2))
        self.assertEqual(forest.parents, (None, 0, None, 1))
        self.assertEqual(forest.bearing, (0, 3))
        self.assertEqual(forest.asking, (1, 2))
        for value in (forest.parents, forest.bearing, forest.asking):
            self.assertIs(type(value), tuple)

    def test_one_and_sixty_places(self):
        self.assertEqual(Forest((None,), (), ()).parents, (None,))
        self.assertEqual(Forest((None,), (0,), (0,)).bearing, (0,))
        many = (None,) * 60
        self.assertEqual(Forest(many, tuple(range(60)), (59,)).parents, many)
        self.refused((), (), (), "parents", -1)
        self.refused(many + (None,), (), (), "parents", -1)
        self.refused((0,) * 61, (), (), "parents", -1)

    def test_parents_that_are_no_tuple(self):
        for thing in odd_things() + [[], [None], [None, 0], -1, BIG]:
            if isinstance(thing, tuple) and len(thing) <= 60:
                continue
            self.refused(thing, (), (), "parents", -1)

    def test_first_wrong_parent(self):
        self.refused((0,), (), (), "parents", 0)
        self.refused((None, 1), (), (), "parents", 1)
        self.refused((None, 2, 0), (), (), "parents", 1)
        self.refused((None, -1, 5), (), (), "parents", 1)
        self.refused((None, 0, 1, 3, 9), (), (), "parents", 3)
        self.refused((None, 0, 1, 1, BIG, -BIG), (), (), "parents", 4)
        self.refused((None,) * 59 + (59,), (), (), "parents", 59)
        self.assertEqual(Forest((None,) * 59 + (58,), (), ()).parents[59], 58)

    def test_odd_things_as_parents(self):
        for odd in odd_numbers():
            if odd is None:
                continue
            self.refused((odd,), (), (), "parents", 0)
            self.refused((None, 0, odd, odd, 1), (), (), "parents", 2)
            self.refused((None, None, 1, odd), (), (), "parents", 3)

    def test_lots_that_are_none(self):
        wrong = odd_things() + [
            [], [0], -1, 0, BIG, (-1,), (2,), (0, 2), (0, BIG), (1, 0), (0, 0), (1, 1), (-1, 0, 1),
            (0, 1, 1), (None,), (0, None), ("0",), (True,), (False,), (0, True), (False, 1), ((0,),),
            (0, nested(39, "tuple")), (0, [1]), tuple(range(20000))]
        for thing in wrong:
            self.refused((None, 0), thing, (), "bearing", -1)
            self.refused((None, 0), (), thing, "asking", -1)
            self.refused((None, 0), (0, 1), thing, "asking", -1)

    def test_first_that_is_due_is_raised(self):
        self.refused((None, 1), 5, 5, "parents", 1)
        self.refused([None], 5, 5, "parents", -1)
        self.refused((None, 0), (2,), (2,), "bearing", -1)
        self.refused((None, 0), (1,), (2,), "asking", -1)

    def test_nothing_passed_is_changed(self):
        wrong = ([None, [0]], [0, [1]], {0: [1]})
        before = copy.deepcopy(wrong)
        self.refused(*wrong, "parents", -1)
        self.assertEqual(wrong, before)

    def test_equality(self):
        one = Forest((None, 0), (0,), (1,))
        self.assertTrue(one == Forest((None, 0), (0,), (1,)))
        self.assertFalse(one != Forest((None, 0), (0,), (1,)))
        for other in (Forest((None, None), (0,), (1,)), Forest((None, 0), (1,), (1,)),
                      Forest((None, 0), (0,), (0,)), Forest((None, 0, 0), (0,), (1,)), LONE):
            self.assertFalse(one == other)
            self.assertTrue(one != other)

    def test_equal_to_nothing_else(self):
        class Agreeing:
            def __eq__(self, other):
                return True
        likes = [((None, 0), (0, 1), (0, 1)), [(None, 0), (0, 1), (0, 1)], 1.5, {0}, Agreeing()]
        for thing in odd_things() + likes:
            if isinstance(thing, Forest):
                continue
            self.assertIs(MIXED == thing, False)
            self.assertIs(MIXED != thing, True)
        self.assertIs(S == likes[0], False)


class PlacesTest(unittest.TestCase):

    def test_way_and_under_at_each_place(self):
        below = chance(1)
        forests = [H, S, MIXED, LONE, row(60), Forest((None,) * 60, (), ())]
        forests += [some_forest(below, 12) for _ in range(20)] + [long_forest(below, 60)]
        for forest in forests:
            everywhere = range(len(forest.parents))
            for place in everywhere:
                over = tuple([other for other in everywhere if is_over(forest, other, place)])
                self.assertEqual(way(forest, place), over)
                lower = tuple([other for other in everywhere if is_over(forest, place, other)])
                self.assertEqual(under(forest, place), lower)

    def test_several_roots(self):
        self.assertEqual(way(MIXED, 4), (0, 1, 4))
        self.assertEqual(way(MIXED, 2), (2,))
        self.assertEqual(way(MIXED, 5), (2, 5))
        self.assertEqual(under(MIXED, 0), (0, 1, 3, 4))
        self.assertEqual(under(MIXED, 2), (2, 5))
        self.assertEqual(under(MIXED, 4), (4,))

    def test_no_place(self):
        for forest in (H, LONE, row(60)):
            for thing in odd_numbers() + [len(forest.parents)]:
                self.assertRaises(NoPlace, way, forest, thing)
                self.assertRaises(NoPlace, under, forest, thing)

    def test_kinds(self):
        self.assertIs(type(way(H, 3)), tuple)
        self.assertIs(type(under(H, 3)), tuple)
        self.assertIs(type(pairs(H)), list)

    def test_pairs(self):
        self.assertEqual(pairs(LONE), [])
        self.assertEqual(pairs(MIXED), [(0, 0), (0, 3), (0, 4), (1, 3), (1, 4), (2, 2), (4, 4)])
        self.assertEqual(len(pairs(row(60))), 60 * 61 // 2)
        for forest in small_forests(3):
            self.assertEqual(pairs(forest), pairs_by_words(forest))
            self.assertEqual(pairs(forest), sorted(pairs(forest)))

    def test_lists_are_new(self):
        first = pairs(H)
        self.assertIsNot(first, pairs(H))
        first.append("more")
        self.assertNotIn("more", pairs(H))


class RowTest(unittest.TestCase):

    def test_row(self):
        self.assertEqual(row(1), Forest((None,), (0,), (0,)))
        self.assertEqual(row(3), Forest((None, 0, 1), (0, 1, 2), (0, 1, 2)))
        everywhere = tuple(range(60))
        self.assertEqual(row(60), Forest((None,) + everywhere[:59], everywhere, everywhere))
        self.assertIs(type(row(2)), Forest)

    def test_no_number(self):
        for thing in odd_numbers() + [0, 61, True]:
            self.assertRaises(NoNumber, row, thing)

    def test_rows_are_rows(self):
        for places in (1, 2, 59, 60):
            self.assertIs(is_row(row(places)), True)
        self.assertIs(is_row(Forest((None, 0), (0, 1), (0, 1))), True)

    def test_forests_near_a_row(self):
        for near in (
                Forest((None,), (), (0,)), Forest((None,), (0,), ()), Forest((None, None), (0, 1), (0, 1)),
                Forest((None, 0), (0,), (0, 1)), Forest((None, 0), (0, 1), (1,)),
                Forest((None, 0, 0), (0, 1, 2), (0, 1, 2)), Forest((None, 0, None), (0, 1, 2), (0, 1, 2)),
                H, MIXED, LONE):
            self.assertIs(is_row(near), False)

    def test_other_things_are_no_row(self):
        for thing in odd_numbers() + [((None, 0), (0, 1), (0, 1)), 1, 2]:
            if not isinstance(thing, Forest):
                self.assertIs(is_row(thing), False)


if __name__ == "__main__":
    unittest.main()
