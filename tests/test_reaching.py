"""Points 6 and 41 to 44: paid pairs, open paths and outputs, bills."""

import random
import unittest

from chosenlast.errors import UnknownPair
from chosenlast.reaching import bills_of, can_lead, least_coins, outputs_open, paid_on, paths_open
from chosenlast.safety import is_safe
from tests import reference
from tests.values import (
    COINS, DIAGONAL, PROGRAM, SMALL_TABLES, SQUARE, TABLE, WIDE, coins_of, deep_program, drawn_program,
    drawn_scope, drawn_table, full_table, limit_program, same, subsets)

BIG, SMALL = ("room", "big"), ("room", "small")
MON, TUE, WED = ("time", "mon"), ("time", "tue"), ("time", "wed")
ALL_PAIRS = (BIG, SMALL, MON, TUE, WED)
ODD = ("year", "old")
STOP = ("stop",)

# It says the same word on several paths, asks twice, and asks with no and with all candidates chosen.
ASKS = ("ask", "room", ("big",),
        ("ask", "time", ("mon", "tue", "wed"), ("ask", "room", ("big",), ("say", "a", STOP), ("say", "b", STOP)), STOP),
        ("ask", "time", ("wed",), ("say", "a", STOP), ("ask", "time", (), STOP, ("say", "a", STOP))))


class ReachingTests(unittest.TestCase):

    def test_examples(self):
        self.assertEqual(paid_on(TABLE, (), PROGRAM, ("yes", "yes")), (SMALL, TUE))
        self.assertEqual(paths_open(TABLE, (), COINS, PROGRAM), (("no",),))
        self.assertEqual(outputs_open(TABLE, (SMALL,), COINS, PROGRAM), (("large",), ("large", "early")))
        self.assertEqual(least_coins(TABLE, (), PROGRAM, ("large",)), 2)
        self.assertEqual(bills_of(TABLE, (), PROGRAM, ("large", "early")), ((SMALL, TUE),))

    def test_paid_pairs(self):
        self.assertEqual(paid_on(TABLE, (), PROGRAM, ()), ())
        self.assertEqual(paid_on(TABLE, (), PROGRAM, ("yes",)), (SMALL,))
        # WED is dead as soon as SMALL is struck.
        self.assertEqual(paid_on(TABLE, (), PROGRAM, ("yes", "no")), (SMALL, MON))
        self.assertEqual(paid_on(TABLE, (SMALL,), PROGRAM, ("yes", "yes")), (TUE,))
        self.assertEqual(paid_on(TABLE, (SMALL, TUE), PROGRAM, ("yes", "yes")), ())
        self.assertEqual(paid_on(TABLE, ALL_PAIRS, PROGRAM, ("yes", "yes")), ())
        # In the order of a scope, not of the answers.
        program = ("ask", "time", ("mon",), STOP, ("ask", "room", ("big",), STOP, STOP))
        self.assertEqual(paid_on(TABLE, (), program, ("no", "yes")), (SMALL, MON))
        self.assertEqual(paid_on(TABLE, (), program, ("no", "no")), (BIG, MON))

    def test_the_same_question_twice(self):
        self.assertEqual(paid_on(TABLE, (), ASKS, ("yes", "yes", "yes")), (SMALL,))
        # Another answer the second time pays for what the first one left, and no row is left.
        self.assertEqual(paid_on(TABLE, (), ASKS, ("yes", "yes", "no")), (BIG, SMALL))
        coins = ((0, (BIG,)), (1, (SMALL,)))
        self.assertIs(can_lead(TABLE, (), coins, ASKS, ("yes", "yes", "yes")), True)
        self.assertIs(can_lead(TABLE, (), coins, ASKS, ("yes", "yes", "no")), False)
        self.assertIs(is_safe(TABLE, (), coins), False)

    def test_no_and_all_candidates_chosen(self):
        self.assertEqual(paid_on(TABLE, (), ASKS, ("yes", "no")), (SMALL, MON, TUE))
        self.assertIs(can_lead(TABLE, (), coins_of(ALL_PAIRS, ALL_PAIRS, ALL_PAIRS), ASKS, ("yes", "no")), False)
        self.assertEqual(paid_on(TABLE, (), ASKS, ("no", "no", "no")), (BIG, WED))
        self.assertEqual(paid_on(TABLE, (), ASKS, ("no", "no", "yes")), (BIG, MON, WED))
        self.assertIs(can_lead(TABLE, (), COINS, ASKS, ("no",)), True)
        self.assertIs(can_lead(TABLE, (), COINS, ASKS, ("no", "no")), False)
        self.assertIs(can_lead(TABLE, (WED,), COINS, ASKS, ("no", "no")), True)

    def test_each_output_once(self):
        coins = coins_of(ALL_PAIRS, ALL_PAIRS)
        self.assertEqual(paths_open(TABLE, (), coins, ASKS), (("no", "no", "no"), ("no", "yes"), ("yes", "yes", "yes")))
        self.assertEqual(outputs_open(TABLE, (), coins, ASKS), (("a",),))
        self.assertEqual(bills_of(TABLE, (), ASKS, ("a",)), ((BIG, MON), (BIG, WED), (SMALL,)))
        self.assertEqual(least_coins(TABLE, (), ASKS, ("a",)), 1)
        self.assertEqual(bills_of(TABLE, (), ASKS, ()), ())
        self.assertIsNone(least_coins(TABLE, (), ASKS, ()))
        self.assertEqual(bills_of(TABLE, (), ASKS, ("b",)), ())

    def test_outputs_are_not_in_the_order_of_the_paths(self):
        program = ("ask", "room", ("big",), ("say", "a", STOP), ("say", "b", STOP))
        coins = coins_of(ALL_PAIRS)
        self.assertEqual(paths_open(TABLE, (), coins, program), (("no",), ("yes",)))
        self.assertEqual(outputs_open(TABLE, (), coins, program), (("a",), ("b",)))

    def test_no_bill_and_the_empty_bill(self):
        for output in (("late",), ("early",), ("large", "early", "large"), ("early", "large")):
            self.assertEqual(bills_of(TABLE, (), PROGRAM, output), ())
            self.assertIsNone(least_coins(TABLE, (), PROGRAM, output))
        self.assertEqual(bills_of(TABLE, (), STOP, ()), ((),))
        self.assertIs(least_coins(TABLE, (), STOP, ()), 0)
        self.assertEqual(bills_of(TABLE, (SMALL, TUE), PROGRAM, ("large", "early")), ((),))
        self.assertIs(least_coins(TABLE, (SMALL, TUE), PROGRAM, ("large", "early")), 0)
        self.assertIsNone(least_coins(TABLE, (SMALL, TUE), PROGRAM, ("large",)))

    def test_no_row_alive(self):
        for struck in ((BIG, SMALL), ALL_PAIRS):
            coins = coins_of(ALL_PAIRS, ALL_PAIRS)
            self.assertEqual(paths_open(TABLE, struck, coins, PROGRAM), ())
            self.assertEqual(outputs_open(TABLE, struck, coins, STOP), ())
            self.assertIs(can_lead(TABLE, struck, coins, PROGRAM, ()), False)
            self.assertEqual(paid_on(TABLE, struck, PROGRAM, ("no",)), ())
            self.assertEqual(bills_of(TABLE, struck, STOP, ()), ())
            self.assertIsNone(least_coins(TABLE, struck, STOP, ()))

    def test_pairs_that_no_table_has(self):
        coins = ((0, (BIG, ("room", "mon"), ODD)), (1, (ODD,)), (2, (MON, ODD)))
        plain = ((0, (BIG,)), (1, ()), (2, (MON,)))
        for program in (PROGRAM, ASKS):
            for struck in ((), (SMALL,), (WED,)):
                self.assertEqual(paths_open(TABLE, struck, coins, program), paths_open(TABLE, struck, plain, program))
                self.check(TABLE, struck, coins, program)

    def test_small_tables(self):
        draw = random.Random(41)
        for table in (*SMALL_TABLES, WIDE):
            pairs = reference.pairs_of(table)
            questions = reference.questions(table)
            for k in range(12):
                program = drawn_program(draw, questions, k % 8, 5)
                for struck in ((), tuple(pairs[:1]), drawn_scope(draw, pairs, 3), tuple(pairs)):
                    coins = coins_of(*[drawn_scope(draw, pairs, 4) for _ in range(draw.randint(0, 5))])
                    self.check(table, struck, coins, program)

    def test_fixed_programs(self):
        for program in (PROGRAM, ASKS, STOP):
            for struck in subsets(ALL_PAIRS):
                for coins in ((), COINS, coins_of(ALL_PAIRS, (BIG, WED)), coins_of((SMALL,), (MON,), (TUE,))):
                    self.check(TABLE, struck, coins, program)

    def check(self, table, struck, coins, program):
        walks = reference.walks(program)
        opened = {path for path in walks if reference.is_open(table, struck, coins, program, path)}
        for path in walks:
            self.assertTrue(same(paid_on(table, struck, program, path), reference.paid(table, struck, program, path)))
            self.assertIs(can_lead(table, struck, coins, program, path), path in opened)
        complete = tuple(sorted(opened & set(reference.complete_paths(program))))
        self.assertTrue(same(paths_open(table, struck, coins, program), complete))
        outputs = tuple(sorted({walks[path][0] for path in complete}))
        self.assertTrue(same(outputs_open(table, struck, coins, program), outputs))
        for output in ({walk[0] for walk in walks.values()} | {(), ("large",), ("hi", "hi")}):
            bills = reference.least_bills(table, struck, program, output)
            self.assertTrue(same(bills_of(table, struck, program, output), bills))
            least = min((len(bill) for bill in bills), default=None)
            self.assertTrue(same(least_coins(table, struck, program, output), least))
            self.assertIs(output in outputs, any(reference.pays(coins, bill) for bill in bills))

    def test_safe_coins_pay_for_consistent_paths_only(self):
        draw = random.Random(42)
        for _ in range(60):
            table = drawn_table(draw, 3, 3, draw.randint(3, 8))
            pairs = reference.pairs_of(table)
            coins = coins_of(*[drawn_scope(draw, pairs, 3) for _ in range(3)])
            program = drawn_program(draw, reference.questions(table), 6, 4)
            struck = drawn_scope(draw, pairs, 1)
            if is_safe(table, struck, coins):
                for path in reference.walks(program):
                    paid = paid_on(table, struck, program, path)
                    self.assertIs(can_lead(table, struck, coins, program, path), reference.pays(coins, paid))

    def test_consequences(self):
        """Point 44, for additional struck pairs, additional coins and wider scopes."""
        draw = random.Random(44)
        for table in (TABLE, SQUARE, DIAGONAL, WIDE):
            pairs = reference.pairs_of(table)
            for _ in range(20):
                program = drawn_program(draw, reference.questions(table), 5, 4)
                struck = drawn_scope(draw, pairs, 2)
                more = tuple(sorted({*struck, draw.choice(pairs)}))
                coins = coins_of(*[drawn_scope(draw, pairs, 2) for _ in range(2)])
                wider = tuple((number, tuple(sorted({*scope, draw.choice(pairs)}))) for number, scope in coins)
                for path in reference.walks(program):
                    self.assertLessEqual(
                        set(paid_on(table, more, program, path)), set(paid_on(table, struck, program, path)))
                    if can_lead(table, struck, coins, program, path):
                        self.assertIs(can_lead(table, struck, (*wider, (99, ())), program, path), True)
                        self.assertIs(can_lead(table, more, coins, program, path),
                                      reference.is_consistent(table, more, program, path))

    def test_at_the_limits(self):
        draw = random.Random(2441)
        for k in range(12):
            table = full_table(4, 5, 24) if k % 3 == 0 else drawn_table(draw, 4, 5, 24)
            pairs = reference.pairs_of(table)
            questions = reference.questions(table)
            program = limit_program(draw.sample(questions, 6)) if k % 2 else drawn_program(draw, questions, 7, 6)
            coins = coins_of(*[drawn_scope(draw, pairs, (2, 5, 10, 20)[k % 4]) for _ in range(5)])
            self.check(table, drawn_scope(draw, pairs, 2), coins, program)

    def test_larger_programs(self):
        table = full_table(4, 5, 24)
        questions = [(item, (name,)) for item, name in reference.pairs_of(table)] * 15
        program = deep_program(questions)
        coins = coins_of(*[tuple(reference.pairs_of(table))] * 5)
        # "yes" pays for all other candidates of the item, and then the next "no" is forced.
        self.assertEqual(paths_open(table, (), coins, program), (("no",), ("yes", "no")))
        self.assertEqual(paths_open(table, (), (), ("ask", "a", (), STOP, program)), ())
        self.assertEqual(paid_on(table, (), program, ("yes",)), tuple(("a", name) for name in "qrst"))

    def test_unknown_pairs(self):
        first = ("room", "mon")
        for struck, pair in (((first,), first), ((BIG, ODD), ODD), ((BIG, first, WED, ODD), first),
                             ((BIG, first, SMALL), first)):
            for program, path in ((PROGRAM, ("yes",)), (PROGRAM, ("no",)), (STOP, ())):
                for function, arguments in (
                        (paid_on, (program, path)), (can_lead, (COINS, program, path)), (can_lead, ((), program, ())),
                        (paths_open, (COINS, program)), (outputs_open, (COINS, program)),
                        (least_coins, (program, ())), (least_coins, (program, ("none",))),
                        (bills_of, (program, ())), (bills_of, (program, ("none",)))):
                    with self.assertRaises(UnknownPair) as caught:
                        function(TABLE, struck, *arguments)
                    self.assertIs(caught.exception.pair, pair)


if __name__ == "__main__":
    unittest.main()
