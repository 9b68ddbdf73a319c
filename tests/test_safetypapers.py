"""Point 28: safety papers and their checker."""

import itertools
import random
import unittest

from chosenlast.errors import InvalidPaper, UnknownPair
from chosenlast.safety import is_safe
from chosenlast.safetychecker import lets_safety
from chosenlast.safetypapers import safety_paper
from tests import entries, reference
from tests.values import (
    ANY_VALUES, COIN_TOSS, COINS, DIAGONAL, SMALL_TABLES, SQUARE, TABLE, WIDE, checked, coins_of, drawn_scope,
    drawn_table, full_table, limit_coins, nested, same, sample_coins, subsets, variants)

BIG, SMALL = ("room", "big"), ("room", "small")
MON, TUE, WED = ("time", "mon"), ("time", "tue"), ("time", "wed")
ALL_PAIRS = (BIG, SMALL, MON, TUE, WED)
ODD = ("year", "old")

SAFE = ("safe", (("small", "wed"), (("few", (SMALL,)), ("few", (WED,)))))
UNSAFE = ("unsafe", (BIG, MON), (0, 1), (("big", "tue"), ("small", "mon")))

# Coins of which one pays for BIG or MON, the other one for WED, and a paper for them in which nodes stand in nodes.
TWO = ((2, (BIG, MON)), (8, (WED,)))
NODE_2 = (("small", "mon"), (("few", (SMALL,)), ("few", (BIG, MON))))
NODE_1 = (("small", "wed"), (("few", (SMALL,)), NODE_2))
NODE_4 = (("big", "tue"), (("few", (BIG, MON)), ("few", (TUE,))))
NODE_3 = (("small", "wed"), (("few", (SMALL,)), NODE_4))
DEEP = ("safe", (("big", "mon"), (NODE_1, NODE_3)))


class SafetyPaperTests(unittest.TestCase):

    def test_examples(self):
        self.assertEqual(
            safety_paper(TABLE, (BIG, SMALL), ()), ("unsafe", (), (), ()))
        self.assertEqual(lets_safety(TABLE, (), COINS, SAFE), "safe")
        self.assertEqual(lets_safety(TABLE, (WED,), COINS, UNSAFE), "unsafe")

    def test_no_row_alive(self):
        for struck in ((BIG, SMALL), (MON, TUE, WED), ALL_PAIRS):
            for coins in ((), COINS, TWO):
                self.assertEqual(safety_paper(TABLE, struck, coins), ("unsafe", (), (), ()))
                self.assertEqual(lets_safety(TABLE, struck, coins, ("unsafe", (), (), ())), "unsafe")
                self.assertEqual(checked(lets_safety, TABLE, struck, coins, SAFE), ("row", 0))

    def test_no_coins(self):
        for table in SMALL_TABLES:
            word, (row, branches) = safety_paper(table, (), ())
            self.assertEqual(word, "safe")
            self.assertEqual(branches, tuple(("few", (pair,)) for pair in zip(table[0], row)))
            self.assertEqual(checked(lets_safety, table, (), (), ("unsafe", (), (), ())), ("breaks", -1))

    def test_all_small_coins(self):
        for table in SMALL_TABLES:
            for struck in subsets(reference.pairs_of(table)[::2]):
                for coins in sample_coins(table):
                    self.check(table, struck, coins)

    def test_a_larger_table(self):
        for struck in ((), (("b", "u"),), (("abcdefgh", "a"), ("c", "s"))):
            for coins in sample_coins(WIDE):
                self.check(WIDE, struck, coins)

    def test_drawn_tables(self):
        draw = random.Random(28)
        for _ in range(60):
            table = drawn_table(draw, 3, 3, draw.randint(3, 8))
            pairs = reference.pairs_of(table)
            coins = coins_of(*[drawn_scope(draw, pairs, 4) for _ in range(draw.randint(0, 4))])
            self.check(table, drawn_scope(draw, pairs, 2), coins)

    def check(self, table, struck, coins):
        self.assertEqual(self.confirmed(table, struck, coins),
                         "safe" if reference.safe(table, struck, coins) else "unsafe", (table, struck, coins))

    def confirmed(self, table, struck, coins):
        """Return the word of the paper; what an accepted paper states is true, so no trial of all pairs is needed."""
        paper = safety_paper(table, struck, coins)
        self.assertIs(type(paper), tuple)
        self.assertIsNone(entries.safety(table, struck, coins, paper), (table, struck, coins, paper))
        self.assertEqual(lets_safety(table, struck, coins, paper), paper[0])
        return paper[0]

    def test_pairs_that_no_table_has(self):
        odd = ("room", "mon")
        for coins in (coins_of((ODD,)), coins_of((BIG, odd, ODD), (BIG, ODD), (ODD,)),
                      coins_of((odd,), (odd,), (odd,))):
            self.check(TABLE, (), coins)
            plain = tuple((number, tuple(p for p in scope if p in ALL_PAIRS)) for number, scope in coins)
            paper = safety_paper(TABLE, (), plain)
            self.assertEqual(lets_safety(TABLE, (), coins, paper), paper[0])
        self.assertEqual(lets_safety(TABLE, (WED,), ((0, (BIG, ODD)), (1, (MON, ODD))), UNSAFE), "unsafe")

    def test_at_the_limits(self):
        words = {self.confirmed(table, (), coins) for table, coins in limit_coins()}
        self.assertEqual(words, {"safe", "unsafe"})

    def test_drawn_tables_at_the_limits(self):
        draw = random.Random(9)
        for most in (2, 3, 4, 6, 8, 12, 20):
            for _ in range(3):
                table = drawn_table(draw, 4, 5, 24)
                pairs = reference.pairs_of(table)
                coins = coins_of(*[drawn_scope(draw, pairs, most) for _ in range(5)])
                self.assertEqual(self.confirmed(table, (), coins) == "safe", is_safe(table, (), coins))

    def test_beyond_the_limits(self):
        table = full_table(5, 5, 60)
        pairs = tuple(reference.pairs_of(table))
        for scopes in ([pairs[k::6] for k in range(6)], [pairs[:4]] * 8, [pairs[k:k + 2] for k in range(7)]):
            self.confirmed(table, (), coins_of(*scopes))

    def test_unknown_pairs(self):
        first = ("room", "mon")
        for struck, pair in (((first,), first), ((BIG, ODD), ODD), ((BIG, first, WED, ODD), first),
                             ((BIG, first, SMALL), first)):
            for coins in ((), COINS, coins_of((ODD,))):
                with self.assertRaises(UnknownPair) as caught:
                    safety_paper(TABLE, struck, coins)
                self.assertIs(caught.exception.pair, pair)
                for thing in (*ANY_VALUES[::9], SAFE, UNSAFE, ("unsafe", (), (), ())):
                    with self.assertRaises(UnknownPair) as caught:
                        lets_safety(TABLE, struck, coins, thing)
                    self.assertIs(caught.exception.pair, pair)


class SafetyCheckerTests(unittest.TestCase):

    def refused(self, word, at, struck, coins, thing, table=TABLE):
        with self.assertRaises(InvalidPaper) as caught:
            lets_safety(table, struck, coins, thing)
        self.assertTrue(same((caught.exception.word, caught.exception.at), (word, at)), caught.exception.__dict__)

    def test_shape(self):
        _, node = SAFE
        for thing in (("safe",), ("safe", node, ()), ["safe", node], ("Safe", node), ("unsafe", node), node,
                      ("safe", list(node)), ("safe", (["small", "wed"], node[1])), ("safe", (node[0], list(node[1]))),
                      ("safe", (node[0],)), ("safe", (*node, ())), ("safe", ("small", node[1])), ("safe", SAFE[1][1]),
                      ("safe", ("few", (BIG,))), ("safe", (("small", "Wed"), node[1])), ("safe", (("small", 1), ())),
                      ("safe", (("small", "wed"), (("few", (SMALL,)), ("few", (WED, SMALL))))),
                      ("safe", (("small", "wed"), (("few", (SMALL,)), ("few", [WED])))),
                      ("safe", (("small", "wed"), (("few", (SMALL,)), ["few", (WED,)]))),
                      ("safe", (("small", "wed"), (("few", (SMALL,)), ("paid", (WED,))))),
                      ("safe", (("small", "wed"), (("few", (SMALL,)), ("few", (WED,), ())))),
                      ("safe", (("small", "wed"), (("few", (SMALL,)), None))),
                      ("safe", (("small", "wed"), (("few", (SMALL,)), (("small", "wed"), (None, ())))))):
            self.refused("shape", -1, (), COINS, thing)
        _, pairs, numbers, rows = UNSAFE
        for thing in (("unsafe", pairs, numbers), (*UNSAFE, ()), list(UNSAFE), ("safe", pairs, numbers, rows),
                      ("unsafe", pairs[::-1], numbers, rows), ("unsafe", (BIG, BIG), numbers, rows),
                      ("unsafe", list(pairs), numbers, rows), ("unsafe", (BIG, list(MON)), numbers, rows),
                      ("unsafe", pairs, list(numbers), rows), ("unsafe", pairs, (False, True), rows),
                      ("unsafe", pairs, (0, -1), rows), ("unsafe", pairs, ("0", 1), rows), ("unsafe", None, None, None),
                      ("unsafe", pairs, numbers, list(rows)), ("unsafe", pairs, numbers, (list(rows[0]), rows[1])),
                      ("unsafe", pairs, numbers, (rows[0], ("small", "Mon"))), ("unsafe", pairs, 0, rows),
                      ("unsafe", pairs, numbers, ("big", "small")), ("unsafe", "", "", "")):
            self.refused("shape", -1, (WED,), COINS, thing)

    def test_any_value(self):
        for thing in ANY_VALUES:
            for paper in (thing, ("safe", thing), ("safe", (thing, ())), ("safe", ((), thing)),
                          ("unsafe", thing, (), ()), ("unsafe", (), thing, ()), ("unsafe", (), (), thing),
                          ("unsafe", (), (), (thing,)), (thing, (), (), ()), ("safe", (("small", "wed"), thing)),
                          ("safe", (("small", "wed"), (thing,))), ("safe", (("small", "wed"), (thing, thing))),
                          ("safe", (("small", "wed"), (("few", thing),)))):
                for struck in ((), (BIG, SMALL)):
                    self.agrees(TABLE, struck, COINS, paper)

    def agrees(self, table, struck, coins, thing):
        """The checker raises the first entry that holds, or returns the word."""
        found = checked(lets_safety, table, struck, coins, thing)
        expected = entries.safety(table, struck, coins, thing)
        self.assertTrue(same(found, thing[0] if expected is None else expected), (thing, found, expected))

    def test_deep_values(self):
        for kind in (tuple, list):
            for depth in (5, 28, 29):
                deep = nested(kind, depth)
                for thing in (("safe", deep), ("safe", ((), deep)), ("unsafe", (), (), deep)):
                    self.refused("shape", -1, (BIG, SMALL), COINS, thing)
        # Fourteen nodes inside each other, as deep as a value may be; no row is left on the way behind the second one.
        toss, (x, y) = COIN_TOSS, COIN_TOSS[1]
        chain = (x, ())
        for n in range(14):
            chain = ((x, y)[n % 2], (chain,))
        self.refused("row", 2, (), (), ("safe", chain), toss)
        self.refused("row", 1, (), (), ("safe", (y, ((y, (("few", ()),)),))), toss)
        self.refused("branches", 0, (), COINS, ("safe", (("big", "mon"), (chain,))))

    def test_pair(self):
        coins = ((0, ALL_PAIRS), (1, ALL_PAIRS))
        rows = (("small", "mon"), ("big", "mon"))
        self.assertEqual(lets_safety(TABLE, (), coins, ("unsafe", (BIG, SMALL), (0, 1), rows[:0] + (
            ("big", "mon"), ("small", "mon")))), "unsafe")
        self.refused("pair", 0, (), coins, ("unsafe", (("room", "a"), SMALL), (0, 1), rows))
        self.refused("pair", 1, (), coins, ("unsafe", (BIG, ("room", "mon"), SMALL), (0, 1), rows))
        self.refused("pair", 2, (), coins, ("unsafe", (BIG, SMALL, ODD), (7, 7), ()))
        self.refused("pair", 0, (BIG, SMALL), (), ("unsafe", (("a", "b"),), (), ()))

    def test_breaks(self):
        for pairs in ((), (BIG,), (BIG, MON), (MON, TUE), (SMALL, TUE, WED)):
            self.refused("breaks", -1, (), COINS, ("unsafe", pairs, (), ()))
        self.refused("breaks", -1, (WED,), COINS, ("unsafe", (BIG, TUE), (0, 1), UNSAFE[3]))

    def test_many_and_coin(self):
        _, pairs, numbers, rows = UNSAFE
        for some in ((), (0,), (0, 1, 0), (7, 7, 7)):
            self.refused("many", -1, (WED,), COINS, ("unsafe", pairs, some, rows))
        for some, k in (((1, 0), 0), ((0, 0), 1), ((0, 2), 1), ((2, 1), 0), ((10 ** 59, 1), 0)):
            self.refused("coin", k, (WED,), COINS, ("unsafe", pairs, some, rows))
        self.refused("coin", 1, (WED,), ((0, (BIG, MON)), (1, (MON,))), ("unsafe", pairs, (0, 0), rows))
        self.refused("many", -1, (WED,), COINS, ("unsafe", pairs, (), ()))
        self.refused("coin", 0, (WED,), COINS, ("unsafe", pairs, (1, 0), ()))

    def test_rows_and_row(self):
        _, pairs, numbers, rows = UNSAFE
        for some in ((), rows[:1], rows + rows[:1]):
            self.refused("rows", -1, (WED,), COINS, ("unsafe", pairs, numbers, some))
        for k, row in ((0, ("big",)), (0, ("big", "wed")), (0, ("big", "tue", "mon")), (0, ()), (0, ("big", "mon")),
                       (0, ("small", "mon")), (0, ("small", "wed")), (1, ("big", "mon")), (1, ("small", "wed")),
                       (1, ("big", "tue"))):
            some = rows[:k] + (row,) + rows[k + 1:]
            self.refused("row", k, (WED,), COINS, ("unsafe", pairs, numbers, some))
        self.refused("row", 0, (WED,), COINS, ("unsafe", pairs, numbers, rows[::-1]))
        # BIG is not needed beside MON and TUE, and a struck pair never is.
        coins = ((0, (BIG,)), (1, (MON,)), (2, (TUE, WED)))
        self.refused("row", 0, (WED,), coins, ("unsafe", (BIG, MON, TUE), (0, 1, 2), (*rows, ("big", "tue"))))
        self.refused("row", 2, (WED,), coins, ("unsafe", (BIG, MON, WED), (0, 1, 2), (*rows, ("small", "wed"))))
        self.refused("row", 0, (BIG, SMALL), coins, ("unsafe", (BIG,), (0,), (("big", "mon"),)))

    def test_row_of_a_node(self):
        few = (("few", (SMALL,)), ("few", (WED,)))
        for row in ((), ("small",), ("small", "tue"), ("small", "wed", "wed"), ("wed", "small")):
            self.refused("row", 0, (), COINS, ("safe", (row, few)))
        self.refused("row", 0, (WED,), COINS, SAFE)
        self.refused("row", 0, (SMALL,), COINS, SAFE)
        self.assertEqual(lets_safety(TABLE, (TUE,), COINS, SAFE), "safe")
        # A pair on the way is not alive further on, neither this one's nor an earlier one's.
        for row in (("big", "mon"), ("big", "tue"), ("small", "tue")):
            self.refused("row", 1, (), TWO, ("safe", (("big", "mon"), ((row, few), NODE_3))))
        for row in (("big", "tue"), ("small", "wed")):
            node = (NODE_1[0], (NODE_1[1][0], (row, few)))
            self.refused("row", 2, (), TWO, ("safe", (("big", "mon"), (node, NODE_3))))

    def test_branches(self):
        for branches in ((), (("few", (SMALL,)),), (("few", (SMALL,)), ("few", (WED,)), ("few", (WED,)))):
            self.refused("branches", 0, (), COINS, ("safe", (("small", "wed"), branches)))
        for branches in ((), NODE_1[1][:1], NODE_1[1] + (NODE_2,)):
            node = (("small", "wed"), branches)
            self.refused("branches", 1, (), TWO, ("safe", (("big", "mon"), (node, NODE_3))))
        # Before the branches themselves.
        self.refused("branches", 0, (), COINS, ("safe", (("small", "wed"), (("few", ()),))))

    def test_few(self):
        def paper(first, second):
            return ("safe", (("small", "wed"), (("few", first), ("few", second))))

        self.assertEqual(lets_safety(TABLE, (), COINS, paper((SMALL,), (WED,))), "safe")
        for some in ((), (BIG,), (WED,), (BIG, SMALL), (SMALL, WED), (ODD,), (("room", "a"),)):
            self.refused("few", (0, 0), (), COINS, paper(some, (WED,)))
        for some in ((), (SMALL,), (TUE,), (SMALL, WED), (TUE, WED)):
            self.refused("few", (0, 1), (), COINS, paper((SMALL,), some))
        # There is a coin for it.
        self.refused("few", (0, 0), (), ((4, (SMALL,)),), paper((SMALL,), (WED,)))
        self.refused("few", (0, 1), (), ((4, (TUE, WED)),), paper((SMALL,), (WED,)))
        self.refused("few", (0, 0), (), ((4, ALL_PAIRS),), paper((SMALL,), (BIG,)))

    def test_nodes_in_nodes(self):
        self.assertEqual(lets_safety(TABLE, (), TWO, DEEP), "safe")
        top, bad = ("big", "mon"), (("big", "tue"), ())

        def inside(*branches):
            return ("safe", (top, branches))

        # Nodes are counted in preorder.
        self.refused("row", 1, (), TWO, inside(bad, bad))
        self.refused("row", 2, (), TWO, inside((NODE_1[0], (NODE_1[1][0], bad)), bad))
        self.refused("branches", 3, (), TWO, inside(NODE_1, bad))
        self.refused("branches", 4, (), TWO, inside(NODE_1, (NODE_3[0], (NODE_3[1][0], bad))))
        self.refused("row", 4, (), TWO, inside(NODE_1, (NODE_3[0], (NODE_3[1][0], NODE_2))))
        self.refused("branches", 2, (), TWO, inside((NODE_1[0], (NODE_1[1][0], (NODE_2[0], ()))), bad))
        # All of a node comes before the nodes inside it.
        self.refused("few", (0, 1), (), TWO, inside(bad, ("few", (MON,))))
        self.refused("few", (1, 0), (), TWO, inside((NODE_1[0], (("few", (WED,)), bad)), bad))
        # What was paid on the way is gone: each coin pays once, and a some may name earlier pairs of the way only.
        self.refused("few", (2, 1), (), TWO, inside((NODE_1[0], (NODE_1[1][0], (NODE_2[0], (
            NODE_2[1][0], ("few", (MON,)))))), NODE_3))
        self.refused("few", (4, 0), (), TWO, inside(NODE_1, (NODE_3[0], (NODE_3[1][0], (NODE_4[0], (
            ("few", (BIG, TUE)), ("few", (TUE,))))))))
        # A node and a ("few", some) beside each other; SMALL is not on the way any more behind its branch.
        self.refused("few", (2, 1), (), TWO, inside((NODE_1[0], (NODE_1[1][0], (NODE_2[0], (
            NODE_2[1][0], ("few", (BIG, SMALL)))))), NODE_3))

    def test_exactly_one_word_is_accepted(self):
        pairs = reference.pairs_of(COIN_TOSS)
        fews = [("few", some) for some in subsets(pairs)]
        rows = COIN_TOSS[1]
        flat = [(row, (branch,)) for row in rows for branch in fews]
        deep = [(row, (branch,)) for row in rows for branch in flat]
        papers = [("safe", node) for node in flat + deep + [(row, (node,)) for row in rows for node in deep]]
        papers += [("unsafe", some, numbers, shown) for some in subsets(pairs) for size in range(3)
                   for numbers in itertools.product(range(3), repeat=size)
                   for shown in itertools.product(rows, repeat=len(some))]
        for struck in subsets(pairs):
            for size in range(3):
                for scopes in itertools.product(subsets(pairs), repeat=size):
                    coins = tuple(enumerate(scopes))
                    found = {paper[0] for paper in papers
                             if checked(lets_safety, COIN_TOSS, struck, coins, paper) == paper[0]}
                    self.assertEqual(found, {"safe" if reference.safe(COIN_TOSS, struck, coins) else "unsafe"})

    def test_changed_papers(self):
        for table, struck, coins in ((TABLE, (), COINS), (TABLE, (WED,), COINS), (TABLE, (), TWO),
                                     (TABLE, (), coins_of(ALL_PAIRS, (BIG,), (TUE, WED))),
                                     (SQUARE, (), coins_of((("a", "x"), ("b", "y")), (("a", "y"), ("b", "y")))),
                                     (DIAGONAL, (), coins_of((("a", "p"),), (("a", "p"), ("b", "r"))))):
            paper = safety_paper(table, struck, coins)
            self.agrees(table, struck, coins, paper)
            for thing in variants(paper):
                self.agrees(table, struck, coins, thing)

    def test_several_faults(self):
        for struck, coins, paper in (((), COINS, SAFE), ((WED,), COINS, UNSAFE), ((), TWO, DEEP)):
            for thing in list(variants(paper))[::5]:
                if type(thing) is tuple:
                    for worse in list(variants(thing))[::7]:
                        self.agrees(TABLE, struck, coins, worse)


if __name__ == "__main__":
    unittest.main()
