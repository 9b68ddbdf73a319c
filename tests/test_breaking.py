"""Points 9 and 26: the breaking number and the least breakings."""

import unittest

from chosenlast.breaking import breaking_number, least_breakings
from chosenlast.errors import UnknownPair
from tests import reference
from tests.values import COIN_TOSS, DIAGONAL, SMALL_TABLES, SQUARE, TABLE, WIDE, full_table, same, subsets

BIG, SMALL = ("room", "big"), ("room", "small")
MON, TUE, WED = ("time", "mon"), ("time", "tue"), ("time", "wed")


class BreakingTests(unittest.TestCase):

    def test_examples(self):
        self.assertEqual(breaking_number(TABLE, ()), 2)
        self.assertEqual(least_breakings(TABLE, (WED,)), ((BIG, SMALL), (BIG, MON), (MON, TUE)))

    def test_all_least_ones(self):
        self.assertEqual(least_breakings(TABLE, ()), ((BIG, SMALL),))
        self.assertEqual(least_breakings(COIN_TOSS, ()), ((("a", "x"), ("a", "y")),))
        self.assertEqual(least_breakings(SQUARE, ()), ((("a", "x"), ("a", "y")), (("b", "x"), ("b", "y"))))
        # One pair of each row, whichever.
        self.assertEqual(breaking_number(DIAGONAL, ()), 3)
        self.assertEqual(len(least_breakings(DIAGONAL, ())), 8)

    def test_no_row_alive(self):
        for struck in ((BIG, SMALL), (MON, TUE, WED), (BIG, SMALL, MON, TUE, WED)):
            self.assertEqual(breaking_number(TABLE, struck), 0)
            self.assertEqual(least_breakings(TABLE, struck), ((),))

    def test_one_row_alive(self):
        self.assertEqual(breaking_number(TABLE, (BIG, MON)), 1)
        self.assertEqual(least_breakings(TABLE, (BIG, MON)), ((SMALL,), (WED,)))

    def test_all_struck_pairs(self):
        for table in (*SMALL_TABLES, WIDE):
            for struck in subsets(reference.pairs_of(table)):
                self.check(table, struck)

    def test_at_the_limits(self):
        for table in (full_table(4, 5, 24), full_table(4, 5, 23), full_table(3, 5, 24), full_table(2, 5, 24)):
            pairs = reference.pairs_of(table)
            for struck in ((), pairs[:1], pairs[::4], pairs[1:6], pairs[::2]):
                self.check(table, tuple(struck))

    def test_beyond_the_limits(self):
        table = full_table(4, 5)
        self.assertEqual(breaking_number(table, ()), 5)
        self.assertEqual(least_breakings(table, ()), tuple(
            tuple((item, name) for name in "pqrst") for item in "abcd"))
        table = full_table(6, 6, 40)
        found = least_breakings(table, ())
        self.assertEqual({len(pairs) for pairs in found}, {breaking_number(table, ())})
        self.assertTrue(all(reference.breaks(table, (), pairs) for pairs in found))

    def check(self, table, struck):
        found = least_breakings(table, struck)
        self.assertTrue(same(found, reference.least_breakings(table, struck)), (table, struck))
        self.assertTrue(same(breaking_number(table, struck), len(found[0])))

    def test_unknown_pairs(self):
        first, second = ("room", "mon"), ("year", "old")
        for function in (breaking_number, least_breakings):
            for struck, pair in (((first,), first), ((BIG, second), second), ((BIG, first, WED, second), first),
                                 ((BIG, first, SMALL), first)):
                with self.assertRaises(UnknownPair) as caught:
                    function(TABLE, struck)
                self.assertIs(caught.exception.pair, pair)


if __name__ == "__main__":
    unittest.main()
