"""Point 31: fewest papers and their checker."""

import random
import unittest

from chosenlast.errors import InvalidPaper, UnknownPair
from chosenlast.fewestchecker import lets_fewest
from chosenlast.fewestpapers import fewest_paper
from chosenlast.homes import fewest_home
from tests import entries, reference
from tests.values import (
    ANY_VALUES, COIN_TOSS, COINS, MORE, SMALL_TABLES, SQUARE, TABLE, checked, coins_of, drawn_scope, drawn_table,
    full_table, same, sample_coins, variants)

BIG, SMALL = ("room", "big"), ("room", "small")
MON, TUE, WED = ("time", "mon"), ("time", "tue"), ("time", "wed")
ALL_PAIRS = (BIG, SMALL, MON, TUE, WED)
ODD = ("year", "old")

PAPER = ("unsafe", (BIG, SMALL), (0, 2), (("big", "mon"), ("small", "mon")))
# Coins 1 and 4 each break the table with coin 9.
PAIRED = ((1, (BIG,)), (4, (BIG,)))
LAST = (9, (SMALL,))


def unsafe(number, last=9):
    return ("unsafe", (BIG, SMALL), (number, last), (("big", "mon"), ("small", "mon")))


class FewestPaperTests(unittest.TestCase):

    def test_example(self):
        self.assertIs(lets_fewest(TABLE, (), COINS, MORE, 1, (PAPER, ())), True)
        self.assertEqual(fewest_paper(TABLE, (), COINS, MORE, 1), (PAPER, ()))
        self.assertIsNone(fewest_paper(TABLE, (), COINS, MORE, 2))

    def test_sizes(self):
        self.assertEqual(fewest_paper(TABLE, (), PAIRED, LAST, 1)[1], ())
        paper = fewest_paper(TABLE, (), PAIRED, LAST, 2)
        self.assertEqual([len(paper[1]), paper[1][0][1]], [1, ()])
        for size in (3, 4, 5, 10 ** 59):
            self.assertIsNone(fewest_paper(TABLE, (), PAIRED, LAST, size))

    def test_no_home_set(self):
        """There is a paper for every size, with as many coins on the way as there are."""
        for size in range(1, 9):
            self.assertEqual(fewest_paper(TABLE, (BIG, SMALL), COINS, (9, ()), size), (("unsafe", (), (), ()), ()))
            self.check(TABLE, (BIG, MON), COINS, (9, (SMALL,)), size)
            self.check(TABLE, (BIG, MON), coins_of((SMALL,), (WED,), (SMALL, WED)), (9, (WED,)), size)
        self.check(COIN_TOSS, (), coins_of((("a", "x"),), (("a", "x"),)), (9, (("a", "y"),)), 2)

    def test_safe_already(self):
        for size in range(1, 5):
            self.assertIsNone(fewest_paper(TABLE, (), COINS, (9, ()), size))
            self.assertIsNone(fewest_paper(TABLE, (), (), (9, ALL_PAIRS), size))

    def test_all_small_coins(self):
        for table in SMALL_TABLES:
            pairs = reference.pairs_of(table)
            for struck in ((), tuple(pairs[:1])):
                for coins in sample_coins(table)[::2]:
                    for coin in ((0, tuple(pairs[:1])), (3, tuple(pairs[1:3])), (99, tuple(pairs))):
                        for size in range(1, len(coins) + 3):
                            self.check(table, struck, coins, coin, size)

    def test_drawn_tables(self):
        draw = random.Random(31)
        for _ in range(60):
            table = drawn_table(draw, 3, 3, draw.randint(3, 6))
            pairs = reference.pairs_of(table)
            coins = coins_of(*[drawn_scope(draw, pairs, 4) for _ in range(draw.randint(3, 5))])
            coin = (draw.choice((0, 3, 99)), drawn_scope(draw, pairs, 3))
            for size in range(1, 7):
                self.check(table, (), coins, coin, size)

    def check(self, table, struck, coins, coin, size):
        homes = reference.home_sets(table, struck, coins, coin)
        self.assertEqual(self.has_paper(table, struck, coins, coin, size),
                         not any(len(numbers) < size for numbers in homes), (table, struck, coins, coin, size))

    def has_paper(self, table, struck, coins, coin, size):
        paper = fewest_paper(table, struck, coins, coin, size)
        if paper is None:
            return False
        self.assertIs(type(paper), tuple)
        self.assertIsNone(entries.fewest(table, struck, coins, coin, size, paper))
        self.assertIs(lets_fewest(table, struck, coins, coin, size, paper), True)
        return True

    def test_pairs_that_no_table_has(self):
        coins = tuple((number, (*scope, ("room", "mon"), ODD)) for number, scope in PAIRED)
        for size in (1, 2, 3):
            self.check(TABLE, (), coins, (9, (SMALL, ODD)), size)

    def test_at_the_limits(self):
        draw = random.Random(2431)
        for most in (2, 4, 6, 9, 14, 20):
            for even in (False, True):
                table = full_table(4, 5, 24) if even else drawn_table(draw, 4, 5, 24)
                pairs = reference.pairs_of(table)
                coins = coins_of(*[drawn_scope(draw, pairs, most) for _ in range(5)])
                coin = (99, drawn_scope(draw, pairs, most))
                fewest = fewest_home(table, (), coins, coin)
                for size in range(1, 8):
                    self.assertEqual(self.has_paper(table, (), coins, coin, size), fewest is None or fewest >= size)
        # All five coins must come home, whatever size is asked for up to there.
        coins = coins_of(*[(("a", "x"),)] * 5)
        for size in range(1, 8):
            self.assertEqual(self.has_paper(COIN_TOSS, (), coins, (99, (("a", "y"),)), size), size <= 5)
        # No coin helps, and each of the papers needs some of them.
        table = drawn_table(draw, 4, 5, 24)
        for size in range(1, 8):
            self.assertTrue(self.has_paper(table, tuple(
                ("a", name) for name in "pqrs"), coins_of(*[tuple(reference.pairs_of(table))] * 5), (
                    99, (("a", "t"),)), size))

    def test_unknown_pairs(self):
        first = ("room", "mon")
        for struck, pair in (((first,), first), ((BIG, ODD), ODD), ((BIG, first, WED, ODD), first)):
            for size in (1, 2, 7):
                calls = [(fewest_paper, (TABLE, struck, COINS, (9, (ODD,)), size))]
                calls += [(lets_fewest, (TABLE, struck, COINS, (9, (ODD,)), size, thing)) for thing in (
                    None, (), (PAPER, ()), 0)]
                for function, arguments in calls:
                    with self.assertRaises(UnknownPair) as caught:
                        function(*arguments)
                    self.assertIs(caught.exception.pair, pair)


class FewestCheckerTests(unittest.TestCase):

    def refused(self, word, at, size, thing, coins=PAIRED, coin=LAST, struck=()):
        with self.assertRaises(InvalidPaper) as caught:
            lets_fewest(TABLE, struck, coins, coin, size, thing)
        self.assertTrue(same((caught.exception.word, caught.exception.at), (word, at)), caught.exception.__dict__)

    def agrees(self, table, coins, coin, size, thing):
        """The checker raises the first entry that holds, or returns True."""
        found = checked(lets_fewest, table, (), coins, coin, size, thing)
        expected = entries.fewest(table, (), coins, coin, size, thing)
        self.assertTrue(same(found, True if expected is None else expected), (size, thing, found, expected))

    def test_shape(self):
        paper = unsafe(1)
        for thing in ((paper,), (paper, (), ()), [paper, ()], (paper, []), (paper, None), (list(paper), ()), paper,
                      (("safe", (("big", "mon"), ())), ()), (None, ()), (paper, paper), (paper, (paper,)),
                      (paper, (None,)), (paper, ((paper, []),)), (paper, ([paper, ()],)), (paper[:3], ()),
                      (paper, ((paper, (paper,)),)), (("unsafe", (SMALL, BIG), (1, 9), paper[3]), ()),
                      (("unsafe", (BIG, SMALL), (True, 9), paper[3]), ())):
            for size in (1, 2, 3):
                self.refused("shape", -1, size, thing)

    def test_any_value(self):
        for thing in ANY_VALUES:
            for paper in (thing, (thing, ()), (PAPER, thing), (PAPER, (thing,)), (PAPER, ((thing, ()),)),
                          (thing, thing), (("unsafe", thing, (0, 2), ()), ()), (PAPER, ((PAPER, thing),))):
                for size in (1, 2):
                    self.agrees(TABLE, COINS, MORE, size, paper)

    def test_deep_values(self):
        chain = (PAPER, ())
        for _ in range(13):
            chain = (PAPER, (chain,))
        self.refused("paper", 1, 10 ** 59, chain, COINS, MORE)
        self.refused("branches", 0, 1, chain, COINS, MORE)

    def test_paper(self):
        self.assertIs(lets_fewest(TABLE, (), PAIRED, LAST, 1, (unsafe(1), ())), True)
        self.assertIs(lets_fewest(TABLE, (), PAIRED, LAST, 1, (unsafe(4), ())), True)
        for paper in (unsafe(0), unsafe(1, 4), unsafe(9, 1), ("unsafe", (), (), ())):
            self.refused("paper", 0, 1, (paper, ()))
            self.refused("paper", 0, 2, (paper, ()))
        # The coin that was removed on the way pays nothing any more.
        self.assertIs(lets_fewest(TABLE, (), PAIRED, LAST, 2, (unsafe(1), ((unsafe(4), ()),))), True)
        self.assertIs(lets_fewest(TABLE, (), PAIRED, LAST, 2, (unsafe(4), ((unsafe(1), ()),))), True)
        self.refused("paper", 1, 2, (unsafe(1), ((unsafe(1), ()),)))
        self.refused("paper", 1, 2, (unsafe(4), ((unsafe(4), ()),)))
        self.refused("paper", 2, 3, (unsafe(1), ((unsafe(4), ((unsafe(4), ()),)),)))
        self.refused("paper", 2, 3, (unsafe(1), ((unsafe(4), ((unsafe(1), ()),)),)))

    def test_branches(self):
        inner = (unsafe(4), ())
        self.refused("branches", 0, 1, (unsafe(1), (inner,)))
        self.refused("branches", 0, 2, (unsafe(1), ()))
        self.refused("branches", 0, 2, (unsafe(1), (inner, inner)))
        self.refused("branches", 1, 2, (unsafe(1), ((unsafe(4), (inner,)),)))
        self.refused("branches", 1, 3, (unsafe(1), (inner,)))
        # All of a node comes before what is inside it.
        self.refused("branches", 0, 1, (unsafe(1), ((unsafe(1), ()),)))

    def test_branches_belong_to_the_numbers_in_order(self):
        """Nodes are counted in preorder; the coin itself has no branch, wherever its number stands."""
        pairs = (("a", "p"), ("a", "q"), ("a", "r"))
        table = (("a", "b"), (("p", "x"), ("q", "y"), ("r", "x")))
        rows = table[1]
        coins = ((1, pairs), (2, pairs), (3, pairs[2:]), (6, pairs[:1]), (7, pairs[:1]))
        coin = (5, pairs[1:2])

        def paper(first, last):
            return ("unsafe", pairs, (first, 5, last), rows)

        def accepted(size, thing):
            return checked(lets_fewest, table, (), coins, coin, size, thing)

        first, second = (paper(6, 3), ()), (paper(6, 2), ())
        self.assertIs(accepted(1, (paper(1, 3), ())), True)
        self.assertIs(accepted(2, (paper(1, 3), (first, second))), True)
        self.assertEqual(accepted(2, (paper(1, 3), (second, first))), ("paper", 2))
        self.assertEqual(accepted(2, (paper(1, 3), (first,))), ("branches", 0))
        self.assertEqual(accepted(2, (paper(1, 3), (first, second, second))), ("branches", 0))
        self.assertIs(accepted(2, (paper(6, 3), ((paper(7, 3), ()), second))), True)
        # The top is node 0, node (paper(6, 3), ..) node 1 with nodes 2 and 3 inside, the other one node 4.
        node = (paper(6, 3), ((paper(7, 3), ()), (paper(6, 2), ())))
        third, fourth = (paper(6, 2), ()), (paper(6, 1), ())
        for branches, expected in (
                ((third, fourth), True), ((third, third), ("paper", 6)), ((third,), ("branches", 4)),
                (((paper(6, 2), (first,)), first), ("branches", 5)), ((first, first), ("paper", 5))):
            self.assertEqual(accepted(3, (paper(1, 3), (node, (paper(1, 2), branches)))), expected)

    def test_changed_papers(self):
        for table, coins, coin in (
                (TABLE, COINS, MORE), (TABLE, PAIRED, LAST), (TABLE, coins_of((BIG,), (BIG,), (BIG, SMALL)), LAST),
                (SQUARE, coins_of((("a", "x"), ("b", "x")), (("a", "x"), ("b", "y"))), (0, (("a", "y"), ("b", "y"))))):
            for size in (1, 2, 3):
                paper = fewest_paper(table, (), coins, coin, size)
                if paper is not None:
                    for other in (1, 2, 3):
                        self.agrees(table, coins, coin, other, paper)
                    for thing in variants(paper):
                        self.agrees(table, coins, coin, size, thing)

    def test_several_faults(self):
        for thing in list(variants((unsafe(1), ((unsafe(4), ()),))))[::3]:
            if type(thing) is tuple:
                for worse in list(variants(thing))[::5]:
                    self.agrees(TABLE, PAIRED, LAST, 2, worse)


if __name__ == "__main__":
    unittest.main()
