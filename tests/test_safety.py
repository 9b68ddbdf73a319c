"""Points 5, 9 and 27: safe coins and the widest scope of one more coin."""

import unittest

from chosenlast.breaking import breaking_number
from chosenlast.errors import UnknownPair
from chosenlast.safety import is_safe, widest_scope
from tests import reference
from tests.values import (
    COIN_TOSS, COINS, DIAGONAL, SMALL_TABLES, SQUARE, TABLE, WIDE, coins_of, full_table, limit_coins, same,
    sample_coins, subsets)

BIG, SMALL = ("room", "big"), ("room", "small")
MON, TUE, WED = ("time", "mon"), ("time", "tue"), ("time", "wed")
ALL_PAIRS = (BIG, SMALL, MON, TUE, WED)
ODD = ("year", "old")


class SafetyTests(unittest.TestCase):

    def test_examples(self):
        self.assertEqual((is_safe(TABLE, (), COINS), is_safe(TABLE, (WED,), COINS)), (True, False))
        self.assertEqual(widest_scope(TABLE, (), COINS), (BIG, MON, TUE))

    def test_no_coins(self):
        for table in SMALL_TABLES:
            self.assertIs(is_safe(table, (), ()), True)
            self.assertEqual(widest_scope(table, (), ()), tuple(reference.pairs_of(table)))
        self.assertIs(is_safe(TABLE, (BIG,), ()), True)
        self.assertEqual(widest_scope(COIN_TOSS, (("a", "x"),), ()), (("a", "x"),))

    def test_no_row_alive(self):
        for struck in ((BIG, SMALL), (MON, TUE, WED), ALL_PAIRS):
            for coins in ((), COINS, coins_of(())):
                self.assertIs(is_safe(TABLE, struck, coins), False)
                self.assertIsNone(widest_scope(TABLE, struck, coins))

    def test_unsafe_coins(self):
        for coins in (coins_of((BIG,), (SMALL,)), coins_of((BIG, SMALL), (BIG, SMALL)),
                      coins_of((MON,), (TUE,), (WED,)), coins_of((), (BIG, MON), (BIG, SMALL))):
            self.assertIs(is_safe(TABLE, (), coins), False)
            self.assertIsNone(widest_scope(TABLE, (), coins))
        self.assertIs(is_safe(TABLE, (), coins_of((BIG, SMALL))), True)

    def test_one_coin_pays_one_pair(self):
        self.assertIs(is_safe(SQUARE, (), coins_of((("a", "x"), ("a", "y")), (("b", "x"),))), True)
        self.assertIs(is_safe(DIAGONAL, (), coins_of((("a", "p"), ("b", "r")), (("a", "r"),), (("a", "p"),))), False)
        # The same pair twice is of no use.
        self.assertIs(is_safe(TABLE, (), coins_of((BIG,), (BIG,), (BIG,))), True)

    def test_pairs_that_are_no_pairs_of_the_table(self):
        for coins in (coins_of((ODD,)), coins_of((ODD,), (ODD,), (ODD,)), coins_of((BIG, ("room", "mon"), ODD))):
            self.assertIs(is_safe(TABLE, (), coins), True)
            plain = tuple((number, tuple(p for p in scope if p in ALL_PAIRS)) for number, scope in coins)
            self.assertEqual(widest_scope(TABLE, (), coins), widest_scope(TABLE, (), plain))
        self.assertIs(is_safe(TABLE, (WED,), coins_of((BIG, ODD), (MON, ODD))), False)

    def test_struck_and_dead_pairs_are_in_the_widest_scope(self):
        # TUE is dead: it is to be had with BIG only.
        self.assertEqual(widest_scope(TABLE, (BIG,), ()), (BIG, MON, TUE, WED))
        self.assertEqual(widest_scope(TABLE, (BIG,), coins_of((MON,))), (BIG, MON, TUE))
        self.assertEqual(widest_scope(TABLE, (MON,), coins_of((TUE, WED))), (MON,))
        for table in (*SMALL_TABLES, WIDE):
            for struck in subsets(reference.pairs_of(table)):
                for coins in sample_coins(table)[::7]:
                    widest = widest_scope(table, struck, coins)
                    if widest is not None:
                        self.assertLessEqual({*struck, *reference.dead(table, struck)}, set(widest))

    def test_all_small_coins(self):
        for table in SMALL_TABLES:
            for struck in subsets(reference.pairs_of(table)[::2]):
                for coins in sample_coins(table):
                    self.check(table, struck, coins)

    def test_a_larger_table(self):
        for struck in ((), (("b", "u"),), (("abcdefgh", "a"), ("c", "s"))):
            for coins in sample_coins(WIDE)[::2]:
                self.check(WIDE, struck, coins)

    def check(self, table, struck, coins):
        self.assertIs(is_safe(table, struck, coins), reference.safe(table, struck, coins), (table, struck, coins))
        self.assertTrue(same(widest_scope(table, struck, coins), reference.widest(table, struck, coins)))

    def test_one_more_coin_is_safe_exactly_within_the_widest_scope(self):
        for struck in ((), (WED,), (BIG,)):
            for coins in sample_coins(TABLE):
                widest = widest_scope(TABLE, struck, coins)
                if widest is not None:
                    for scope in subsets(ALL_PAIRS):
                        self.assertIs(is_safe(TABLE, struck, (*coins, (99, scope))), set(scope) <= set(widest))

    def test_what_keeps_coins_safe(self):
        for table in (TABLE, SQUARE, DIAGONAL):
            for struck in subsets(reference.pairs_of(table)[::2]):
                for coins in sample_coins(table):
                    if is_safe(table, struck, coins):
                        self.check_less(table, struck, coins)
                    if len(coins) < breaking_number(table, struck):
                        self.assertIs(is_safe(table, struck, coins), True)

    def check_less(self, table, struck, coins):
        for k, (number, scope) in enumerate(coins):
            others = coins[:k] + coins[k + 1:]
            self.assertIs(is_safe(table, struck, others), True)
            for pair in scope:
                smaller = tuple(other for other in scope if other != pair)
                self.assertIs(is_safe(table, struck, coins[:k] + ((number, smaller),) + coins[k + 1:]), True)
                self.assertIs(is_safe(table, tuple(sorted({*struck, pair})), others), True)

    def test_at_the_limits(self):
        found = set()
        for table, coins in limit_coins():
            safe = is_safe(table, (), coins)
            found.add(safe)
            self.assertIs(safe, reference.safe(table, (), coins))
            widest = widest_scope(table, (), coins)
            self.assertEqual(widest is not None, safe)
            if safe:
                for pair in reference.pairs_of(table)[::3]:
                    more = (*coins, (99, (pair,)))
                    self.assertEqual(pair in widest, is_safe(table, (), more))
        self.assertEqual(found, {True, False})

    def test_at_the_limits_by_trying_all(self):
        table = full_table(4, 5, 24)
        pairs = tuple(reference.pairs_of(table))
        coins = coins_of(pairs[:4], pairs[1:5], pairs[2:9], pairs[:1], pairs[12:])
        struck = pairs[6:8]
        self.assertEqual(widest_scope(table, struck, coins), reference.widest(table, struck, coins))

    def test_beyond_the_limits(self):
        table = full_table(4, 5)
        pairs = tuple(reference.pairs_of(table))
        coins = coins_of(*[pairs[:4]] * 8)
        self.assertIs(is_safe(table, (), coins), True)
        self.assertEqual(widest_scope(table, (), coins), pairs[:4] + pairs[5:])
        self.assertIs(is_safe(table, (), coins_of(*[pairs] * 5)), False)
        self.assertIs(is_safe(table, (), coins_of(*[pairs] * 4)), True)
        self.assertEqual(widest_scope(table, (), coins_of(*[pairs] * 4)), ())

    def test_unknown_pairs(self):
        first, second = ("room", "mon"), ODD
        for function in (is_safe, widest_scope):
            for struck, pair in (((first,), first), ((BIG, second), second), ((BIG, first, WED, second), first),
                                 ((BIG, first, SMALL), first)):
                for coins in ((), COINS, coins_of((ODD,))):
                    with self.assertRaises(UnknownPair) as caught:
                        function(TABLE, struck, coins)
                    self.assertIs(caught.exception.pair, pair)


if __name__ == "__main__":
    unittest.main()
