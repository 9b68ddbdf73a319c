"""Points 58 and 59: cases and their checker (guarantee C3)."""

import itertools
import random
import unittest

from chosenlast.banks import issue
from chosenlast.casechecker import lets_case
from chosenlast.cases import worst_case
from chosenlast.errors import InvalidPaper, InvalidStep, UnknownPair
from chosenlast.offices import answer_with, first_office, take
from tests import entries, reference
from tests.values import (
    ANY_VALUES, COIN_TOSS, DIAGONAL, SMALL_TABLES, SQUARE, TABLE, WIDE, checked, coins_of, copied, drawn_scope,
    drawn_table, limit_coins, nested, same, subsets, variants)

BIG, SMALL = ("room", "big"), ("room", "small")
MON, TUE, WED = ("time", "mon"), ("time", "tue"), ("time", "wed")
ALL_PAIRS = (BIG, SMALL, MON, TUE, WED)
ODD = ("year", "old")

FIRST = ((), (), 0, False, None)
BANK = ((), ((0, (BIG,)),), 1, False, None)
CASE = ((0, BIG), (1, SMALL))
# Two coins outside, of which a case for any third one that is refused needs both.
WIDER = ((), ((1, (MON, TUE)), (4, (MON, WED))), 6, False, None)


def is_refused(table, bank, scope):
    """Return whether the bank refuses the scope."""
    try:
        issue(table, bank, scope)
    except InvalidStep:
        return True
    return False


def all_cases(table, bank, scope):
    """Return all cases, by trying all pairs that the coins can pay; found by the words of point 58."""
    reported, outside, following, is_called, _ = bank
    if is_called:
        return []
    coins = (*outside, (following, scope))
    choices = [[None, *coin[1]] for coin in coins]
    found = []
    for chosen in itertools.product(*choices):
        case = tuple((number, pair) for (number, _), pair in zip(coins, chosen) if pair is not None)
        pairs = [pair for _, pair in case]
        if len(set(pairs)) == len(pairs) and reference.breaks(table, reported, pairs) and not any(
                reference.breaks(table, reported, [other for other in pairs if other != pair]) for pair in pairs):
            found.append(case)
    return found


class CaseTests(unittest.TestCase):

    def check(self, table, bank, scope):
        kept = copied((table, bank, scope))
        case = worst_case(table, bank, scope)
        self.assertTrue(same((table, bank, scope), kept))
        every = all_cases(table, bank, scope)
        if bank[3]:
            self.assertIsNone(case)
            return
        self.assertIs(case is None, not is_refused(table, bank, scope))
        self.assertIs(case is None, not every)
        if case is not None:
            self.assertIs(type(case), tuple)
            self.assertIn(case, every)
            self.assertIs(lets_case(table, bank, scope, case), True)
            self.check_history(table, bank, scope, case)
        for other in every:
            self.assertIs(lets_case(table, bank, scope, other), True)
            self.assertIn(bank[2], dict(other))

    def check_history(self, table, bank, scope, case):
        """What the case says can happen: each pair is struck by an office of its own that knew nothing else."""
        strikes = list(bank[0])
        scopes = {**dict(bank[1]), bank[2]: scope}
        for number, (item, name) in case:
            office = take(first_office(), (number, scopes[number]))
            after, reports = answer_with(table, office, item, (name,), "no", (number,))
            self.assertEqual(reports, ((number, (item, name)),))
            strikes += after[0]
        self.assertEqual(reference.alive(table, strikes), ())

    def test_examples(self):
        self.assertEqual(worst_case(TABLE, BANK, (SMALL,)), CASE)

    def test_none(self):
        for bank, scope in ((FIRST, ()), (FIRST, ALL_PAIRS), (BANK, (BIG, MON, TUE, WED)), (BANK, ()), (WIDER, ())):
            self.assertIsNone(worst_case(TABLE, bank, scope))
        # The new coin alone.
        self.assertEqual(worst_case(TABLE, ((BIG, MON), (), 2, False, None), (TUE, WED)), ((2, WED),))
        self.assertEqual(worst_case(TABLE, ((BIG, MON), ((2, ()),), 5, False, None), (SMALL,)), ((5, SMALL),))

    def test_after_the_call(self):
        for bank in (FIRST, BANK, WIDER):
            for scope in ((), (SMALL,), ALL_PAIRS):
                called = (*bank[:3], True, None)
                self.assertIsNone(worst_case(TABLE, called, scope))
                for thing in ((), CASE, worst_case(TABLE, bank, scope) or ()):
                    self.assertEqual(checked(lets_case, TABLE, called, scope, thing), ("called", -1))
        self.assertIsNone(worst_case(TABLE, ((), (), 2, True, ("big", "mon")), ALL_PAIRS))

    def test_all_scopes(self):
        for bank in (FIRST, BANK, WIDER, ((WED,), ((3, (BIG,)), (5, (BIG, TUE))), 7, False, None),
                     ((WED,), ((3, (TUE,)),), 4, True, None), ((BIG, MON), (), 3, False, None),
                     ((TUE,), ((0, ()), (2, (SMALL,))), 3, False, None)):
            for scope in subsets(ALL_PAIRS):
                self.check(TABLE, bank, scope)

    def test_small_tables(self):
        draw = random.Random(58)
        met = set()
        for k in range(300):
            table = (*SMALL_TABLES, WIDE, drawn_table(draw, 3, 3, 6))[k % 6]
            pairs = reference.pairs_of(table)
            outside = coins_of(*[drawn_scope(draw, pairs, 2) for _ in range(draw.choice((0, 1, 2, 3)))])
            reported = drawn_scope(draw, pairs, 2)
            if reference.safe(table, reported, outside):
                bank = (reported, outside, 14, k % 7 == 0, None)
                scope = drawn_scope(draw, pairs, 4)
                self.check(table, bank, scope)
                met.add(worst_case(table, bank, scope) is None)
        self.assertEqual(met, {True, False})

    def test_unknown_pairs(self):
        first = ("room", "mon")
        for scope, pair in (((first,), first), ((BIG, ODD), ODD), ((BIG, first, WED, ODD), first)):
            for bank in (FIRST, BANK, (*BANK[:3], True, None)):
                calls = [(worst_case, (TABLE, bank, scope))]
                calls += [(lets_case, (TABLE, bank, scope, thing)) for thing in (None, (), CASE)]
                for function, arguments in calls:
                    with self.assertRaises(UnknownPair) as caught:
                        function(*arguments)
                    self.assertIs(caught.exception.pair, pair)

    def test_by_position_and_by_name(self):
        self.assertEqual(worst_case(table=TABLE, bank=BANK, scope=(SMALL,)), CASE)
        self.assertIs(lets_case(table=TABLE, bank=BANK, scope=(SMALL,), thing=CASE), True)

    def test_at_the_limits(self):
        words = set()
        for table, coins in [*limit_coins(), *((table, coins_of(*[()] * 5)) for table in (SQUARE, DIAGONAL))]:
            *outside, (_, scope) = coins
            for many in (4, 2, 1):
                bank = ((), tuple(outside[:many]), 15, False, None)
                if not is_refused(table, (*bank[:1], bank[1][:-1], *bank[2:]), bank[1][-1][1]):
                    case = worst_case(table, bank, scope)
                    words.add(case is None)
                    self.assertIs(case is None, not is_refused(table, bank, scope))
                    if case is not None:
                        self.assertIsNone(entries.case(table, bank, scope, case))
                        self.assertIs(lets_case(table, bank, scope, case), True)
        self.assertEqual(words, {True, False})


class CaseCheckerTests(unittest.TestCase):

    def refused(self, word, at, bank, scope, thing):
        kept = copied(thing)
        with self.assertRaises(InvalidPaper) as caught:
            lets_case(TABLE, bank, scope, thing)
        self.assertTrue(same((caught.exception.word, caught.exception.at), (word, at)), (thing, vars(caught.exception)))
        self.assertTrue(same(thing, kept))

    def agrees(self, bank, scope, thing, table=TABLE):
        found, expected = checked(lets_case, table, bank, scope, thing), entries.case(table, bank, scope, thing)
        self.assertTrue(same(found, True if expected is None else expected), (bank, scope, thing, found, expected))

    def test_example(self):
        self.refused("break", -1, BANK, (SMALL,), ((0, BIG),))

    def test_shape(self):
        for thing in (list(CASE), (list(CASE[0]), CASE[1]), ((0, BIG, ()),), ((0,),), ((0, list(BIG)),), ((True, BIG),),
                      ((-1, BIG),), (("0", BIG),), ((0, ("room", "Big")),), ((0, ("room",)),), (0, BIG), ((BIG, 0),),
                      (CASE,), (*CASE, None), (*CASE, ()), ((0, (BIG,)),), None, "case"):
            for bank in (BANK, (*BANK[:3], True, None)):
                self.refused("shape", -1, bank, (SMALL,), thing)

    def test_any_value(self):
        for thing in (*ANY_VALUES, nested(tuple, 30)):
            for case in (thing, (thing,), (CASE[0], thing), ((thing, BIG), CASE[1]), ((0, thing), CASE[1])):
                self.agrees(BANK, (SMALL,), case)

    def test_called(self):
        for thing in ((), CASE, ((9, BIG),), ((1, ODD), (0, ODD))):
            self.refused("called", -1, (*BANK[:3], True, None), (SMALL,), thing)

    def test_number_scope_and_pair_element_by_element(self):
        scope = (MON, TUE, WED)
        for word, at, thing in (
                ("number", 0, ((0, MON),)), ("number", 0, ((5, MON), (5, ODD))), ("number", 0, ((7, ODD),)),
                ("number", 1, ((1, MON), (1, TUE))), ("number", 1, ((4, MON), (1, TUE))),
                ("number", 1, ((1, MON), (2, ODD))), ("number", 2, ((1, MON), (4, WED), (7, TUE))),
                ("number", 2, ((1, MON), (6, WED), (4, WED))),
                ("scope", 0, ((1, WED), (9, WED))), ("scope", 0, ((4, ODD), (9, ODD))),
                ("scope", 1, ((1, MON), (4, TUE))),
                ("scope", 2, ((1, MON), (4, WED), (6, BIG))), ("scope", 1, ((1, TUE), (6, SMALL), (7, MON))),
                ("pair", 1, ((1, MON), (4, MON), (9, ODD))), ("pair", 2, ((1, TUE), (4, MON), (6, TUE))),
                ("pair", 2, ((1, TUE), (4, WED), (6, WED)))):
            self.refused(word, at, WIDER, scope, thing)
        self.assertIs(lets_case(TABLE, WIDER, scope, ((1, TUE), (4, WED), (6, MON))), True)

    def test_true_is_not_one(self):
        self.refused("shape", -1, WIDER, (TUE,), ((True, TUE), (4, WED), (6, MON)))

    def test_break(self):
        for thing in ((), ((1, MON),), ((1, MON), (4, WED)), ((1, TUE), (6, MON)), ((6, MON),)):
            self.refused("break", -1, WIDER, (MON, TUE, WED), thing)
        self.refused("break", -1, FIRST, ALL_PAIRS, ((0, BIG),))

    def test_needed(self):
        bank = ((), ((1, (BIG, MON)), (4, (BIG, TUE))), 6, False, None)
        self.assertIs(lets_case(TABLE, ((TUE,), *bank[1:]), (SMALL,), ((1, BIG), (6, SMALL))), True)
        self.refused("needed", 0, bank, (SMALL,), ((1, MON), (4, BIG), (6, SMALL)))
        self.refused("needed", 1, bank, (SMALL,), ((1, BIG), (4, TUE), (6, SMALL)))
        bank = ((MON, WED), ((4, (BIG, TUE)),), 6, False, None)
        self.refused("needed", 0, bank, (BIG, SMALL, TUE), ((4, BIG), (6, TUE)))
        self.refused("needed", 1, bank, (BIG, SMALL, TUE), ((4, BIG), (6, SMALL)))
        # Nothing is left over, so that each pair is not needed.
        self.refused("needed", 0, ((BIG, SMALL), ((4, (BIG,)),), 6, False, None), (MON,), ((4, BIG), (6, MON)))

    def test_all_values_of_a_form(self):
        numbers, pairs = (0, 1, 2), reference.pairs_of(COIN_TOSS) + [("a", "z")]
        things = [case for size in range(3) for case in itertools.product(itertools.product(numbers, pairs),
                                                                          repeat=size)]
        for bank in (FIRST, ((), ((0, (("a", "x"),)),), 1, False, None), ((), ((0, ()),), 2, False, None),
                     ((("a", "x"),), ((0, (("a", "x"),)),), 2, False, None)):
            for scope in subsets(reference.pairs_of(COIN_TOSS)):
                accepted = []
                for thing in things:
                    self.agrees(bank, scope, thing, COIN_TOSS)
                    if checked(lets_case, COIN_TOSS, bank, scope, thing) is True:
                        accepted.append(thing)
                self.assertEqual(sorted(accepted), sorted(all_cases(COIN_TOSS, bank, scope)))

    def test_changed_cases(self):
        for bank, scope in ((BANK, (SMALL,)), (WIDER, (MON, TUE, WED)), (BANK, ALL_PAIRS),
                            (((BIG, MON), ((2, ()),), 5, False, None), (SMALL, WED))):
            case = worst_case(TABLE, bank, scope)
            self.assertIsNotNone(case)
            for thing in variants(case):
                self.agrees(bank, scope, thing)
                if type(thing) is tuple:
                    for worse in list(variants(thing))[::5]:
                        self.agrees(bank, scope, worse)


if __name__ == "__main__":
    unittest.main()
