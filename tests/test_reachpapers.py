"""Points 45 and 46: reach papers and their checker."""

import itertools
import random
import unittest

from chosenlast.errors import InvalidPaper, UnknownPair
from chosenlast.reachchecker import lets_reach
from chosenlast.reaching import outputs_open
from chosenlast.reachpapers import reach_paper
from tests import entries, reference
from tests.values import (
    ANY_VALUES, COIN_TOSS, COINS, PROGRAM, SMALL_TABLES, TABLE, WIDE, checked, coins_of, drawn_program, drawn_scope,
    drawn_table, full_table, limit_program, nested, same, subsets, variants)

BIG, SMALL = ("room", "big"), ("room", "small")
MON, TUE, WED = ("time", "mon"), ("time", "tue"), ("time", "wed")
ALL_PAIRS = (BIG, SMALL, MON, TUE, WED)
ODD = ("year", "old")
STOP = ("stop",)

# Two paths without words, ("no",) and ("yes", "no"); the other one says "a".
QUIET = ("ask", "room", ("big",), ("ask", "time", ("mon",), ("say", "a", STOP), STOP), STOP)
# The first complete path contradicts itself; the last one does not.
TWICE = ("ask", "room", ("big",), ("ask", "room", ("big",), STOP, STOP), STOP)
BLOCKED = ("none", (BIG, BIG, SMALL, SMALL))


class ReachPaperTests(unittest.TestCase):

    def test_examples(self):
        self.assertEqual(reach_paper(TABLE, (), COINS, PROGRAM, ()), ("can", ("no",), (0,)))
        paper = ("cannot", (("few", (SMALL,)),))
        self.assertEqual(lets_reach(TABLE, (), COINS, PROGRAM, ("large",), paper), "cannot")

    def test_numbers_in_the_order_of_the_pairs(self):
        coins = ((4, (MON,)), (7, (SMALL,)))
        self.assertEqual(reach_paper(TABLE, (), coins, PROGRAM, ("large",)), ("can", ("yes", "no"), (7, 4)))

    def test_no_path_has_the_output(self):
        for struck in ((), (BIG, SMALL)):
            for output in (("late",), ("early",), ("large", "large")):
                self.assertEqual(reach_paper(TABLE, struck, COINS, PROGRAM, output), ("cannot", ()))
                self.assertEqual(lets_reach(TABLE, struck, COINS, PROGRAM, output, ("cannot", ())), "cannot")

    def test_no_questions(self):
        self.assertEqual(reach_paper(TABLE, (), (), ("say", "a", STOP), ("a",)), ("can", (), ()))
        self.assertEqual(reach_paper(TABLE, (), (), ("say", "a", STOP), ()), ("cannot", ()))
        self.assertEqual(reach_paper(TABLE, (BIG, SMALL), (), STOP, ()), ("cannot", (BLOCKED,)))

    def test_each_reason(self):
        self.assertEqual(reach_paper(TABLE, (), (), QUIET, ()), ("cannot", (("few", (BIG,)), ("few", (SMALL,)))))
        self.assertEqual(reach_paper(TABLE, (SMALL,), ((0, (BIG, TUE)),), QUIET, ()), (
            "cannot", (BLOCKED, ("few", (MON,)))))

    def test_fixed_programs(self):
        for program in (PROGRAM, QUIET, TWICE):
            for struck in subsets(ALL_PAIRS):
                for coins in ((), COINS, coins_of(ALL_PAIRS, (BIG, WED)), coins_of((SMALL,), (MON,), (TUE,))):
                    self.check(TABLE, struck, coins, program)

    def test_small_tables(self):
        draw = random.Random(45)
        for table in (*SMALL_TABLES, WIDE):
            pairs = reference.pairs_of(table)
            for k in range(24):
                program = drawn_program(draw, reference.questions(table), k % 8, 5)
                coins = coins_of(*[drawn_scope(draw, pairs, 3) for _ in range(draw.randint(0, 4))])
                self.check(table, drawn_scope(draw, pairs, 2), coins, program)

    def check(self, table, struck, coins, program):
        walks = reference.walks(program)
        for output in {walk[0] for walk in walks.values()} | {(), ("hi",)}:
            paths = [path for path in reference.complete_paths(program) if walks[path][0] == output]
            can = any(reference.is_open(table, struck, coins, program, path) for path in paths)
            paper = reach_paper(table, struck, coins, program, output)
            self.assertIs(type(paper), tuple)
            self.assertEqual(paper[0], "can" if can else "cannot")
            self.assertIsNone(entries.reach(table, struck, coins, program, output, paper))
            self.assertEqual(lets_reach(table, struck, coins, program, output, paper), paper[0])

    def test_pairs_that_no_table_has(self):
        coins = ((0, (BIG, ("room", "mon"), ODD)), (1, (ODD,)), (2, (MON, ODD)))
        for program in (PROGRAM, QUIET, TWICE):
            for struck in ((), (SMALL,), (WED,)):
                self.check(TABLE, struck, coins, program)

    def test_at_the_limits(self):
        draw = random.Random(2445)
        words = set()
        for k in range(12):
            table = full_table(4, 5, 24) if k % 3 == 0 else drawn_table(draw, 4, 5, 24)
            pairs = reference.pairs_of(table)
            questions = reference.questions(table)
            program = limit_program(draw.sample(questions, 6)) if k % 2 else drawn_program(draw, questions, 7, 6)
            coins = coins_of(*[drawn_scope(draw, pairs, (3, 6, 10, 20)[k % 4]) for _ in range(5)])
            self.check(table, drawn_scope(draw, pairs, 1), coins, program)
            for output in outputs_open(table, (), coins, program):
                words.add(reach_paper(table, (), coins, program, output)[0])
        self.assertEqual(words, {"can"})

    def test_unknown_pairs(self):
        first = ("room", "mon")
        for struck, pair in (((first,), first), ((BIG, ODD), ODD), ((BIG, first, WED, ODD), first)):
            for program, output in ((PROGRAM, ()), (STOP, ()), (STOP, ("a",))):
                calls = [(reach_paper, (TABLE, struck, COINS, program, output))]
                calls += [(lets_reach, (TABLE, struck, COINS, program, output, thing)) for thing in (
                    None, (), ("can", (), ()), ("cannot", ()), ("can", ("no",), (0,)))]
                for function, arguments in calls:
                    with self.assertRaises(UnknownPair) as caught:
                        function(*arguments)
                    self.assertIs(caught.exception.pair, pair)


class ReachCheckerTests(unittest.TestCase):

    def refused(self, word, at, struck, coins, program, output, thing):
        with self.assertRaises(InvalidPaper) as caught:
            lets_reach(TABLE, struck, coins, program, output, thing)
        self.assertTrue(same((caught.exception.word, caught.exception.at), (word, at)), caught.exception.__dict__)

    def agrees(self, struck, coins, program, output, thing, table=TABLE):
        """The checker raises the first entry that holds, or returns the word."""
        found = checked(lets_reach, table, struck, coins, program, output, thing)
        expected = entries.reach(table, struck, coins, program, output, thing)
        self.assertTrue(same(found, thing[0] if expected is None else expected), (thing, found, expected))

    def test_shape(self):
        for thing in (("can",), ("can", ("no",)), ("can", ("no",), (0,), ()), ["can", ("no",), (0,)],
                      ("Can", ("no",), (0,)), ("can", ["no"], (0,)), ("can", ("maybe",), (0,)), ("can", (True,), (0,)),
                      ("can", "no", (0,)), ("can", None, (0,)), ("can", ("no", None), (0,)), ("can", ("no",), [0]),
                      ("can", ("no",), (False,)), ("can", ("no",), (-1,)), ("can", ("no",), ("0",)),
                      ("can", ("no",), 0), ("can", ("no",), None), ("can", (BLOCKED,)), ("paid", (0,)),
                      ("cannot",), ("cannot", (), ()), ["cannot", ()], ("cannot", []), ("cannot", None),
                      ("cannot", "few"), ("cannot", ("no",), (0,)), ("cannot", ("few", (BIG,))),
                      ("cannot", (BLOCKED, None)), ("cannot", (list(BLOCKED),)), ("cannot", (("some", (BIG,)),)),
                      ("cannot", (("few", (BIG,), ()),)), ("cannot", (("few",),)), ("cannot", (("few", [BIG]),)),
                      ("cannot", (("few", (list(BIG),)),)), ("cannot", (("few", BIG),)), ("cannot", (("few", None),)),
                      ("cannot", (("none", (None,)),)), ("cannot", (("none", (("room", "Big"),)),)),
                      ("cannot", (((), (BIG,)),))):
            self.refused("shape", -1, (), COINS, PROGRAM, (), thing)

    def test_any_value(self):
        for thing in (*ANY_VALUES, nested(tuple, 29)):
            for paper in (thing, ("can", thing, (0,)), ("can", ("no",), thing), ("can", (thing,), ()),
                          ("can", ("no",), (thing,)), (thing, ("no",), (0,)), (thing, ()), ("cannot", thing),
                          ("cannot", (thing,)), ("cannot", ((thing, ()),)), ("cannot", (("few", thing),)),
                          ("cannot", (("none", (thing,)),))):
                self.agrees((), COINS, PROGRAM, (), paper)

    def test_path(self):
        for path in ((), ("yes",), ("no", "no"), ("yes", "no", "no"), ("yes",) * 3):
            self.refused("path", -1, (), COINS, PROGRAM, (), ("can", path, ()))
        self.refused("path", -1, (), COINS, STOP, (), ("can", ("no",), ()))
        # Before the output: the path so far has none, as it is asked for.
        self.refused("path", -1, (), COINS, PROGRAM, ("late",), ("can", ("yes",), ()))

    def test_output(self):
        for output in ((), ("early",), ("large", "early"), ("large", "large")):
            self.refused("output", -1, (), COINS, PROGRAM, output, ("can", ("yes", "no"), ()))
        self.refused("output", -1, (BIG, SMALL), COINS, PROGRAM, ("a",), ("can", ("no",), (7, 7)))

    def test_consistent(self):
        self.refused("consistent", -1, (SMALL,), COINS, PROGRAM, (), ("can", ("no",), ()))
        self.refused("consistent", -1, (BIG, SMALL), COINS, PROGRAM, (), ("can", ("no",), (0, 0)))
        # The coins could pay for it.
        coins = ((0, (BIG,)), (1, (SMALL,)))
        self.refused("consistent", -1, (), coins, TWICE, (), ("can", ("yes", "no"), (0, 1)))
        self.assertEqual(lets_reach(TABLE, (), coins, TWICE, (), ("can", ("yes", "yes"), (1,))), "can")

    def test_many(self):
        for numbers in ((), (0, 0), (0, 1)):
            self.refused("many", -1, (), COINS, PROGRAM, (), ("can", ("no",), numbers))
        self.refused("many", -1, (SMALL, TUE), COINS, PROGRAM, ("large", "early"), ("can", ("yes", "yes"), (0,)))

    def test_coin(self):
        coins = ((2, (SMALL, TUE)), (3, (TUE,)), (5, (SMALL,)))
        output, path = ("large", "early"), ("yes", "yes")
        for numbers in ((2, 3), (5, 2), (5, 3)):
            self.assertEqual(lets_reach(TABLE, (), coins, PROGRAM, output, ("can", path, numbers)), "can")
        for numbers, k in (((0, 3), 0), ((3, 2), 0), ((2, 5), 1), ((2, 2), 1), ((2, 10 ** 59), 1), ((9, 9), 0),
                           ((3, 3), 0)):
            self.refused("coin", k, (), coins, PROGRAM, output, ("can", path, numbers))

    def test_many_reasons(self):
        few = ("few", (BIG,))
        for reasons in ((), (few,), (few, few, few)):
            self.refused("many", -1, (), (), QUIET, (), ("cannot", reasons))
        self.refused("many", -1, (), (), QUIET, ("b",), ("cannot", (few,)))

    def test_some_and_few(self):
        path_no, path_yes_no = ("few", (BIG,)), ("few", (SMALL,))
        self.assertEqual(lets_reach(TABLE, (), (), QUIET, (), ("cannot", (path_no, path_yes_no))), "cannot")
        for some in ((SMALL,), (MON,), (ODD,), (BIG, SMALL), (BIG, BIG), (BIG, MON)):
            self.refused("some", 0, (), (), QUIET, (), ("cannot", (("few", some), path_yes_no)))
        for some in ((BIG,), (MON, SMALL), (SMALL, SMALL), (SMALL, TUE), (SMALL, MON, MON)):
            self.refused("some", 1, (), (), QUIET, (), ("cannot", (path_no, ("few", some))))
        for some in ((), (MON,)):
            self.refused("few", 1, (), ((4, (MON,)),), QUIET, (), ("cannot", (path_no, ("few", some))))
        for some in ((SMALL,), (SMALL, MON)):
            self.assertEqual(lets_reach(TABLE, (), ((4, (MON,)),), QUIET, (), (
                "cannot", (path_no, ("few", some)))), "cannot")
        self.refused("few", 0, (), ((4, (BIG,)),), QUIET, (), ("cannot", (path_no, path_yes_no)))
        # In the order of the paths, one reason after the other.
        self.refused("some", 0, (), (), QUIET, (), ("cannot", (path_yes_no, path_no)))
        self.refused("few", 0, (), (), QUIET, (), ("cannot", (("few", ()), ("few", (BIG,)))))

    def test_rows_and_row(self):
        few = ("few", (MON,))
        self.assertEqual(lets_reach(TABLE, (SMALL,), (), QUIET, (), ("cannot", (BLOCKED, few))), "cannot")
        for pairs in ((), BLOCKED[1][:3], BLOCKED[1] + (SMALL,)):
            self.refused("rows", 0, (SMALL,), (), QUIET, (), ("cannot", (("none", pairs), few)))
            self.refused("rows", 1, (), (), QUIET, (), ("cannot", (("few", (BIG,)), ("none", pairs))))
        for k, pair in ((0, SMALL), (0, MON), (0, TUE), (1, WED), (2, MON), (2, BIG), (3, WED), (3, ODD)):
            pairs = BLOCKED[1][:k] + (pair,) + BLOCKED[1][k + 1:]
            self.refused("row", (0, k), (SMALL,), (), QUIET, (), ("cannot", (("none", pairs), few)))
        # Struck pairs and strikes of the path serve alike.
        first, second = ("none", (BIG, TUE, SMALL, WED)), ("none", (MON, TUE, MON, SMALL))
        self.assertEqual(lets_reach(TABLE, (SMALL, TUE, WED), (), QUIET, (), ("cannot", (first, second))), "cannot")
        self.refused("row", (0, 0), (SMALL, TUE, WED), (), QUIET, (), ("cannot", (second, first)))
        reasons = (BLOCKED, ("none", (MON, BIG, SMALL, SMALL)), few)
        self.refused("row", (1, 0), (SMALL,), (), TWICE, (), ("cannot", reasons))
        # The path is consistent: some row has no such pair.
        self.refused("row", (0, 2), (), (), QUIET, (), ("cannot", (BLOCKED, few)))

    def test_only_one_word_is_accepted(self):
        pairs = reference.pairs_of(COIN_TOSS)
        program = ("ask", "a", ("x",), STOP, ("ask", "a", ("x",), ("say", "b", STOP), STOP))
        reasons = [(word, some) for word in ("few", "none") for size in range(3)
                   for some in itertools.product(pairs, repeat=size)]
        papers = [("can", path, numbers) for path in reference.complete_paths(program)
                  for size in range(3) for numbers in itertools.product(range(2), repeat=size)]
        papers += [("cannot", some) for size in range(3) for some in itertools.product(reasons, repeat=size)]
        for output in ((), ("b",), ("c",)):
            for struck in subsets(pairs):
                for scopes in itertools.chain([()], *[itertools.product(subsets(pairs), repeat=n) for n in (1, 2)]):
                    coins = tuple(enumerate(scopes))
                    found = {paper[0] for paper in papers
                             if checked(lets_reach, COIN_TOSS, struck, coins, program, output, paper) == paper[0]}
                    can = output in outputs_open(COIN_TOSS, struck, coins, program)
                    self.assertEqual(found, {"can" if can else "cannot"})

    def test_changed_papers(self):
        for struck, coins, program, output in (
                ((), COINS, PROGRAM, ()), ((), COINS, PROGRAM, ("large",)), ((), (), QUIET, ()),
                ((SMALL,), (), QUIET, ()), ((SMALL,), (), TWICE, ()), ((), ((0, (SMALL,)), (3, (TUE,))), QUIET, ("a",)),
                ((BIG,), COINS, QUIET, ("a",)), ((), (), STOP, ())):
            paper = reach_paper(TABLE, struck, coins, program, output)
            self.agrees(struck, coins, program, output, paper)
            for thing in variants(paper):
                self.agrees(struck, coins, program, output, thing)

    def test_several_faults(self):
        for struck, coins, program, output in (((), COINS, PROGRAM, ()), ((SMALL,), (), QUIET, ())):
            for thing in list(variants(reach_paper(TABLE, struck, coins, program, output)))[::2]:
                if type(thing) is tuple:
                    for worse in list(variants(thing))[::5]:
                        self.agrees(struck, coins, program, output, worse)


if __name__ == "__main__":
    unittest.main()
