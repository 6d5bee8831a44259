"""[9.1], with [0.2] to [0.4] as far as they touch tables of who counts where."""

import copy
import unittest
from itertools import combinations, product

from cutnotes.errors import NoTable
from cutnotes.forests import Forest
from cutnotes.tables import crossing, forest_of, is_table
from common import BIG, chance, is_over, lots, nested, odd_things, spoiled


def crossing_by_words(table):
    for a, b in combinations(range(len(table)), 2):
        one, other = set(table[a]), set(table[b])
        if one & other and one - other and other - one:
            return (a, b)
    return None


def counted_table(below, amounts, asks):
    """A table that some forest tells: its places' ways are counted, by chance."""
    parents = [None if below(6) == 0 else below(place) for place in range(1, amounts + asks)]
    forest = Forest((None,) + tuple(parents), tuple(range(amounts + asks)), ())
    numbers = {place: below(30) for place in range(amounts, amounts + asks)}
    places = [below(amounts + asks) for _ in range(amounts)]
    held = {number: place for place, number in numbers.items()}
    return tuple([tuple(sorted([number for number, place in held.items() if is_over(forest, i, place)]))
                  for i in places])


def is_table_by_words(thing):
    return type(thing) is tuple and 1 <= len(thing) <= 20 and all(
        type(lot) is tuple and all(type(ask) is int and 0 <= ask <= 29 for ask in lot)
        and list(lot) == sorted(set(lot)) for lot in thing)


class TablesTest(unittest.TestCase):

    def fits(self, table):
        """Judges all that is told of a right table."""
        self.assertIs(is_table(table), True)
        right = crossing_by_words(table)
        self.assertEqual(crossing(table), right)
        told = forest_of(table)
        if right is not None:
            self.assertIs(type(crossing(table)), tuple)
            self.assertIsNone(told)
            return None
        self.assertIs(type(told), tuple)
        forest, bearing, asks = told
        self.assertEqual((type(forest), type(bearing), type(asks)), (Forest, tuple, dict))
        self.assertEqual(forest, Forest(forest.parents, forest.bearing, forest.asking))
        self.assertEqual(len(bearing), len(table))
        self.assertEqual(len(set(bearing)), len(table))
        self.assertTrue(all(type(place) is int and place in forest.bearing for place in bearing))
        self.assertEqual(sorted(asks), sorted({ask for lot in table for ask in lot}))
        self.assertEqual(len(set(asks.values())), len(asks))
        self.assertTrue(all(type(place) is int and place in forest.asking for place in asks.values()))
        for amount, lot in enumerate(table):
            for ask, place in asks.items():
                self.assertIs(is_over(forest, bearing[amount], place), ask in lot)
        return told

    def test_all_tables_of_few_amounts_and_asks(self):
        for amounts in (1, 2, 3):
            for table in product(lots(3), repeat=amounts):
                self.fits(table)
        for table in product(lots(4), repeat=2):
            self.fits(tuple([tuple([ask + 26 for ask in lot]) for lot in table]))
        below = chance(211)
        there = lots(4)
        for _ in range(600):
            self.fits(tuple([there[below(len(there))] for _ in range(4 + below(3))]))

    def test_the_least_pair(self):
        self.assertEqual(crossing(((0, 1), (1, 2))), (0, 1))
        self.assertEqual(crossing(((5,), (0, 1), (0, 2), (1, 2))), (1, 2))
        self.assertEqual(crossing(((0, 1), (0,), (2, 3), (3, 4), (1, 9))), (0, 4))
        self.assertIsNone(crossing(((0, 1), (0, 1), (0,), (1,), (), (2,), (0, 1, 2))))

    def test_tables_of_hierarchies(self):
        below = chance(212)
        found = 0
        for _ in range(150):
            table = counted_table(below, 1 + below(20), 1 + below(25))
            self.assertIsNotNone(self.fits(table))
            found += len({ask for lot in table for ask in lot}) > 5
            # One ask more or less in one lot: mostly something crosses then.
            at, ask = below(len(table)), below(30)
            lot = set(table[at]) ^ {ask}
            self.fits(table[:at] + (tuple(sorted(lot)),) + table[at + 1:])
        self.assertGreater(found, 50)

    def test_the_largest_tables(self):
        everything = tuple(range(30))
        self.fits((everything,) * 20)
        self.fits(tuple([everything[at:] for at in range(20)]))
        self.fits(tuple([everything[:at] for at in range(11, 31)]))
        self.fits(tuple([(at,) for at in range(20)]))
        self.fits(((),) * 20)
        self.fits(((),) * 10 + (everything,) + ((),) * 5 + ((3,),) * 4)
        self.fits(((29,),))
        self.fits(((0, 29), (), (29,), (0,), (0, 29)))
        below = chance(213)
        for _ in range(30):
            self.fits(tuple([tuple(sorted({below(30) for _ in range(below(30))})) for _ in range(20)]))

    def test_returned_things_are_new(self):
        table = ((0, 1), (1,))
        one, other = forest_of(table), forest_of(table)
        self.assertEqual(one, other)
        one[2].clear()
        self.assertEqual(forest_of(table), other)

    def test_no_tables(self):
        wrong = [
            (), [], ((),) * 21, [(0,)], ([0],), ((0,), [1]), ((30,),), ((0, 30),), ((-1,),), ((-1, 0),), ((1, 0),),
            ((0, 0),), ((True,),), ((0, True),), ((None,),), ("01",), (b"\x00",), ((BIG,),), (0,), ((0,), 0),
            ((0,), None), ((0,), range(2)), (((0,),),), ({0: 1},), {0: (0,)}, (0, 1), "", b"", None, 3,
            ((0,), nested(38, "tuple")), (tuple(range(20000)),), tuple([(0,)] * 20000), ((0,), Forest((None,), (), ()))]
        for thing in wrong + odd_things():
            if not is_table_by_words(thing):
                self.refused(thing)
        for odd in odd_things() + [-1, 30, BIG]:
            for thing in spoiled(((0, 3), (2,), (0, 3)), odd):
                if not is_table_by_words(thing):
                    self.refused(thing)

    def refused(self, thing):
        self.assertIs(is_table(thing), False)
        self.assertRaises(NoTable, crossing, thing)
        self.assertRaises(NoTable, forest_of, thing)

    def test_20_and_21_lots(self):
        self.assertIs(is_table(((0,),) * 20), True)
        self.refused(((0,),) * 21)
        self.refused(())

    def test_nothing_passed_is_changed(self):
        for thing in ([[0]], ([0],), [(0,)], {0: [0]}):
            before = copy.deepcopy(thing)
            self.refused(thing)
            self.assertEqual(thing, before)


if __name__ == "__main__":
    unittest.main()
