"""Points 29 and 30: coins that must come home, home papers and their checker."""

import random
import unittest

from chosenlast.errors import InvalidPaper, UnknownPair
from chosenlast.homechecker import lets_home
from chosenlast.homepapers import home_paper
from chosenlast.homes import fewest_home, home_sets
from chosenlast.safety import is_safe
from tests import entries, reference
from tests.values import (
    ANY_VALUES, COIN_TOSS, COINS, DIAGONAL, MORE, SMALL_TABLES, SQUARE, TABLE, WIDE, checked, coins_of, drawn_scope,
    drawn_table, full_table, nested, same, sample_coins, variants)

BIG, SMALL = ("room", "big"), ("room", "small")
MON, TUE, WED = ("time", "mon"), ("time", "tue"), ("time", "wed")
ALL_PAIRS = (BIG, SMALL, MON, TUE, WED)
ODD = ("year", "old")

NODE = (("big", "tue"), (("few", (BIG,)), ("few", (TUE,))))
PAPER = ("unsafe", (BIG, SMALL), (0, 2), (("big", "mon"), ("small", "mon")))
HOME = ((0,), NODE, (PAPER,))

# With coin 3, coins 2 and 5 each break the table for themselves, coins 7 and 8 only together.
FOUR = ((2, (SMALL,)), (5, (SMALL, TUE)), (7, (MON,)), (8, (WED,)))
BIG_COIN = (3, (BIG,))


class HomeSetTests(unittest.TestCase):

    def test_example(self):
        self.assertEqual(home_sets(TABLE, (), COINS, MORE), ((0,),))
        self.assertEqual(fewest_home(TABLE, (), COINS, MORE), 1)

    def test_several_sizes(self):
        self.assertEqual(home_sets(TABLE, (), FOUR, BIG_COIN), ((2, 5, 7), (2, 5, 8)))
        self.assertEqual(fewest_home(TABLE, (), FOUR, BIG_COIN), 3)
        coins = ((1, (("a", "x"), ("b", "x"))), (4, (("a", "y"),)), (6, (("b", "y"),)))
        self.assertEqual(home_sets(SQUARE, (), coins, (0, (("a", "x"), ("b", "x")))), ((4, 6),))
        # Three coins break the table together: one of the two others must come home.
        self.assertEqual(home_sets(DIAGONAL, (), ((1, (("a", "p"),)), (2, (("a", "q"),))), (3, (("a", "r"),))),
                         ((1,), (2,)))
        coins = ((1, (BIG,)), (2, (MON,)), (4, (TUE,)))
        self.assertEqual(home_sets(TABLE, (), coins, (5, (SMALL, WED))), ((1, 2), (1, 4)))
        coins = ((1, (BIG, TUE)), (2, (MON, TUE)), (4, (TUE,)))
        self.assertEqual(home_sets(TABLE, (), coins, (5, (WED,))), ((1, 4), (2,)))

    def test_safe_already(self):
        for coin in ((2, ()), (2, (BIG,)), (2, (MON, TUE)), (9, (ODD,))):
            self.assertEqual(home_sets(TABLE, (), COINS, coin), ((),))
            self.assertIs(fewest_home(TABLE, (), COINS, coin), 0)
        self.assertEqual(home_sets(TABLE, (), (), MORE), ((),))

    def test_coin_alone_is_unsafe(self):
        for struck, coin in (((BIG, MON), (2, (SMALL,))), ((BIG, MON), (2, (WED,))), ((SMALL, MON), (7, (BIG, WED)))):
            for coins in ((), COINS):
                self.assertEqual(home_sets(TABLE, struck, coins, coin), ())
                self.assertIsNone(fewest_home(TABLE, struck, coins, coin))
                self.assertIsNone(home_paper(TABLE, struck, coins, coin))

    def test_no_row_alive(self):
        for struck in ((BIG, SMALL), (MON, TUE, WED), ALL_PAIRS):
            for coins in ((), COINS):
                self.assertEqual(home_sets(TABLE, struck, coins, (9, ())), ())
                self.assertIsNone(fewest_home(TABLE, struck, coins, (9, ())))
                self.assertIsNone(home_paper(TABLE, struck, coins, (9, ())))

    def test_all_small_coins(self):
        sizes = set()
        for table in SMALL_TABLES:
            pairs = reference.pairs_of(table)
            for struck in ((), tuple(pairs[:1]), tuple(pairs[-1:])):
                for coins in sample_coins(table):
                    for coin in ((0, tuple(pairs[:1])), (3, tuple(pairs[1:3])), (99, tuple(pairs))):
                        self.check(table, struck, coins, coin)
                        sizes.add(fewest_home(table, struck, coins, coin))
        self.assertEqual(sizes, {0, 1, 2, 3, None})

    def test_drawn_tables(self):
        draw = random.Random(29)
        several = set()
        for k in range(80):
            table = WIDE if k < 20 else drawn_table(draw, 3, 3, draw.randint(3, 8))
            pairs = reference.pairs_of(table)
            coins = coins_of(*[drawn_scope(draw, pairs, 3) for _ in range(draw.randint(3, 5))])
            coin = (draw.choice((0, 3, 99)), drawn_scope(draw, pairs, 3))
            self.check(table, drawn_scope(draw, pairs, 1), coins, coin)
            several |= {len({len(home) for home in home_sets(table, (), coins, coin)})}
        self.assertLessEqual({1, 2}, several)

    def check(self, table, struck, coins, coin):
        homes = reference.home_sets(table, struck, coins, coin)
        self.assertTrue(same(home_sets(table, struck, coins, coin), homes), (table, struck, coins, coin))
        least = min((len(numbers) for numbers in homes), default=None)
        self.assertTrue(same(fewest_home(table, struck, coins, coin), least))
        paper = home_paper(table, struck, coins, coin)
        if not homes:
            self.assertIsNone(paper)
        else:
            self.assertIs(type(paper), tuple)
            self.assertIn(paper[0], homes)
            self.assertIsNone(entries.home(table, struck, coins, coin, paper))
            self.assertTrue(same(lets_home(table, struck, coins, coin, paper), len(paper[0])))

    def test_pairs_that_no_table_has(self):
        coins = tuple((number, tuple(sorted((*scope, ODD, ("room", "mon"))))) for number, scope in FOUR)
        coin = (3, (BIG, ODD))
        self.assertEqual(home_sets(TABLE, (), coins, coin), ((2, 5, 7), (2, 5, 8)))
        self.check(TABLE, (), coins, coin)
        self.check(TABLE, (), coins_of((ODD,), (ODD,)), (99, (ODD,)))

    def test_at_the_limits(self):
        found = set()
        draw = random.Random(2429)
        for most in (2, 3, 4, 6, 9, 14, 20):
            for even in (False, True, False):
                table = full_table(4, 5, 24) if even else drawn_table(draw, 4, 5, 24)
                pairs = reference.pairs_of(table)
                coins = coins_of(*[drawn_scope(draw, pairs, most) for _ in range(5)])
                coin = (99, tuple(pairs[:5]) if most == 3 else drawn_scope(draw, pairs, most))
                found.add(self.check_at_the_limits(table, coins, coin))
        # All five candidates of an item break a table of all rows, and nothing smaller does.
        table = full_table(2, 5)
        some = [(("a", name),) for name in "pqrs"]
        self.assertEqual(self.check_at_the_limits(table, coins_of(*some, (("b", "p"),)), (99, (("a", "t"),))), 1)
        coins = coins_of(*[tuple(("a", name) for name in "pqrst")] * 5)
        self.assertEqual(self.check_at_the_limits(table, coins, (99, (("a", "p"), ("b", "q")))), 2)
        self.assertLessEqual({0, 1}, found)

    def check_at_the_limits(self, table, coins, coin):
        """Papers confirm the home set that they name; the other ones are looked at by asking is_safe."""
        homes = home_sets(table, (), coins, coin)
        for numbers in homes:
            self.assertTrue(is_safe(table, (), entries.without(coins, numbers, coin)))
            for number in numbers:
                left = entries.without(coins, set(numbers) - {number}, coin)
                self.assertFalse(is_safe(table, (), left))
        paper = home_paper(table, (), coins, coin)
        if paper is None:
            self.assertFalse(is_safe(table, (), (coin,)))
            return None
        self.assertIsNone(entries.home(table, (), coins, coin, paper))
        self.assertEqual(lets_home(table, (), coins, coin, paper), len(paper[0]))
        return fewest_home(table, (), coins, coin)

    def test_unknown_pairs(self):
        first = ("room", "mon")
        for struck, pair in (((first,), first), ((BIG, ODD), ODD), ((BIG, first, WED, ODD), first)):
            for coins in ((), COINS, coins_of((ODD,))):
                calls = [(function, (TABLE, struck, coins, (99, (ODD,)))) for function in (
                    home_sets, fewest_home, home_paper)]
                calls += [(lets_home, (TABLE, struck, coins, (99, (ODD,)), thing)) for thing in (None, HOME, (), 0)]
                for function, arguments in calls:
                    with self.assertRaises(UnknownPair) as caught:
                        function(*arguments)
                    self.assertIs(caught.exception.pair, pair)


class HomeCheckerTests(unittest.TestCase):

    def refused(self, word, at, thing, coins=COINS, coin=MORE, struck=(), table=TABLE):
        with self.assertRaises(InvalidPaper) as caught:
            lets_home(table, struck, coins, coin, thing)
        self.assertTrue(same((caught.exception.word, caught.exception.at), (word, at)), caught.exception.__dict__)

    def agrees(self, table, struck, coins, coin, thing):
        """The checker raises the first entry that holds, or returns how many coins come home."""
        found = checked(lets_home, table, struck, coins, coin, thing)
        expected = entries.home(table, struck, coins, coin, thing)
        self.assertTrue(same(found, len(thing[0]) if expected is None else expected), (thing, found, expected))

    def test_example(self):
        self.assertIs(lets_home(TABLE, (), COINS, MORE, HOME), 1)

    def test_how_many(self):
        for table, coins, coin, many in (
                (TABLE, COINS, (2, ()), 0), (TABLE, FOUR, BIG_COIN, 3),
                (TABLE, coins_of((SMALL,), (SMALL,)), (99, (BIG,)), 2),
                (COIN_TOSS, coins_of(*[(("a", "x"),)] * 5), (99, (("a", "y"),)), 5)):
            paper = home_paper(table, (), coins, coin)
            self.assertIs(lets_home(table, (), coins, coin, paper), many)
        # Another home set than the one that home_paper takes: the new coin has nothing to do with it.
        coins = ((1, (BIG,)), (4, (SMALL, TUE)))
        self.assertEqual(home_sets(TABLE, (), coins, (9, (MON,))), ((1,), (4,)))
        node = (("small", "wed"), (("few", (SMALL,)), ("few", (WED,))))
        paper = ("unsafe", (BIG, SMALL), (1, 4), PAPER[3])
        self.assertIs(lets_home(TABLE, (), coins, (9, (MON,)), ((4,), node, (paper,))), 1)

    def test_shape(self):
        numbers, node, papers = HOME
        for thing in ((numbers, node), (*HOME, ()), list(HOME), ([0], node, papers), ((0, 0), node, papers),
                      ((1, 0), node, papers), ((False,), node, papers), ((-1,), node, papers), (("0",), node, papers),
                      (0, node, papers), (None, node, papers), (numbers, list(node), papers),
                      (numbers, ("safe", node), papers),
                      (numbers, ("few", (BIG,)), papers), (numbers, node, list(papers)), (numbers, node, PAPER),
                      (numbers, node, (list(PAPER),)), (numbers, node, (("safe", node),)), (numbers, node, (None,)),
                      (numbers, node, (PAPER[:3],)), (numbers, node, (("unsafe", (SMALL, BIG), (0, 2), PAPER[3]),)),
                      (numbers, node, None), (numbers, (node[0], (node[1][0], None)), papers)):
            self.refused("shape", -1, thing)

    def test_any_value(self):
        for thing in (*ANY_VALUES, nested(tuple, 29)):
            for paper in (thing, (thing, NODE, (PAPER,)), ((0,), thing, (PAPER,)), ((0,), NODE, thing),
                          ((0,), NODE, (thing,)), ((thing,), NODE, (PAPER,)), ((), NODE, thing),
                          ((0,), (("big", "tue"), thing), ()), ((0,), NODE, (("unsafe", thing, (0, 2), ()),)),
                          (thing, thing, thing)):
                self.agrees(TABLE, (), COINS, MORE, paper)

    def test_coin(self):
        _, node, papers = HOME
        for numbers, k in (((2,), 0), ((3,), 0), ((0, 2), 1), ((0, 1, 7, 8), 2), ((10 ** 59,), 0)):
            self.refused("coin", k, (numbers, node, papers))
            self.refused("coin", k, (numbers, ((), ()), ()))

    def test_node(self):
        """What lets_safety raises for ("safe", node) with the coins that are left and the new one."""
        numbers, _, papers = HOME
        self.refused("row", 0, (numbers, (("big", "wed"), NODE[1]), papers))
        self.refused("branches", 0, (numbers, (("big", "tue"), NODE[1][:1]), papers))
        self.refused("few", (0, 0), (numbers, (("big", "tue"), (("few", (TUE,)), ("few", (TUE,)))), papers))
        # Coin 2 has SMALL, coin 1 has MON; coin 0 is not left.
        self.refused("few", (0, 0), (numbers, (("small", "wed"), (("few", (SMALL,)), ("few", (WED,)))), papers))
        self.refused("few", (0, 1), (numbers, (("big", "mon"), (("few", (BIG,)), ("few", (MON,)))), papers))
        self.refused("few", (0, 0), ((), NODE, ()))
        self.refused("few", (0, 0), ((1,), NODE, ()))
        inner = (("big", "tue"), ())
        self.refused("branches", 1, (numbers, (("big", "mon"), (("few", (BIG,)), inner)), ()))
        inner = (("big", "mon"), ())
        self.refused("row", 1, (numbers, (("big", "mon"), (("few", (BIG,)), inner)), ()))
        self.refused("row", 0, HOME, struck=(TUE,))

    def test_papers_and_paper(self):
        numbers, node, papers = HOME
        for some in ((), papers * 2):
            self.refused("papers", -1, (numbers, node, some))
        for paper in (("unsafe", (BIG, SMALL), (0, 1), PAPER[3]), ("unsafe", (BIG, MON), (0, 1), PAPER[3]),
                      ("unsafe", (BIG, SMALL), (0, 2), PAPER[3][::-1]), ("unsafe", (), (), ())):
            self.refused("paper", 0, (numbers, node, (paper,)))
        coins = coins_of((SMALL,), (SMALL,))
        numbers, node, papers = home_paper(TABLE, (), coins, (0, (BIG,)))
        self.assertEqual(numbers, (2, 5))
        # The papers belong to the numbers in order, and each of them is for one of the coins alone.
        self.refused("paper", 0, (numbers, node, papers[::-1]), coins, (0, (BIG,)))
        self.refused("paper", 1, (numbers, node, papers[:1] * 2), coins, (0, (BIG,)))
        self.refused("paper", 1, ((2, 5), node, (papers[0], PAPER)), coins, (0, (BIG,)))
        # More coins come home than need to.
        coins = (*COINS, (3, (WED,)))
        paper = ("unsafe", (BIG, SMALL), (0, 2), PAPER[3])
        self.assertEqual(lets_home(TABLE, (), coins, MORE, ((0,), NODE, (paper,))), 1)
        self.refused("paper", 1, ((0, 3), NODE, (paper, paper)), coins)

    def test_changed_papers(self):
        for table, struck, coins, coin in (
                (TABLE, (), COINS, MORE), (TABLE, (), FOUR, BIG_COIN), (TABLE, (WED,), COINS, (2, (TUE,))),
                (SQUARE, (), coins_of((("a", "x"),), (("a", "x"), ("b", "y"))), (0, (("a", "y"),)))):
            paper = home_paper(table, struck, coins, coin)
            self.agrees(table, struck, coins, coin, paper)
            for thing in variants(paper):
                self.agrees(table, struck, coins, coin, thing)

    def test_several_faults(self):
        for thing in list(variants(HOME))[::3]:
            if type(thing) is tuple:
                for worse in list(variants(thing))[::7]:
                    self.agrees(TABLE, (), COINS, MORE, worse)


if __name__ == "__main__":
    unittest.main()
