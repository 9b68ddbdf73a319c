"""Points 5, 7, 8, 27 and 52: the steps of a bank."""

import random
import unittest

from chosenlast.banks import call, choose, first_bank, issue, report, take_back
from chosenlast.errors import InvalidStep, UnknownPair
from chosenlast.safety import widest_scope
from tests import reference
from tests.values import (
    COIN_TOSS, DIAGONAL, SMALL_TABLES, SQUARE, TABLE, WIDE, copied, drawn_scope, drawn_table, full_table, same, subsets)

BIG, SMALL = ("room", "big"), ("room", "small")
MON, TUE, WED = ("time", "mon"), ("time", "tue"), ("time", "wed")
ALL_PAIRS = (BIG, SMALL, MON, TUE, WED)
ODD = ("year", "old")

FIRST = ((), (), 0, False, None)
BANK = ((), ((0, (("room", "big"),)),), 1, False, None)
CALLED = ((), ((0, (("room", "big"),)),), 1, True, None)
EMPTY = ((MON,), (), 3, True, None)


def expected_issue(table, bank, scope):
    reported, outside, following, is_called, row = bank
    if is_called:
        return ("issue", "called")
    if not reference.safe(table, reported, outside + ((following, scope),)):
        return ("issue", "unsafe")
    return ((reported, outside + ((following, scope),), following + 1, False, row), (following, scope))


def expected_report(bank, number, pair):
    reported, outside, following, is_called, row = bank
    if number not in dict(outside):
        return ("report", "coin")
    if pair not in dict(outside)[number]:
        return ("report", "scope")
    left = tuple(coin for coin in outside if coin[0] != number)
    return (tuple(sorted({*reported, pair})), left, following, is_called, row)


def expected_take_back(bank, number):
    if number not in dict(bank[1]):
        return ("take_back", "coin")
    return (bank[0], tuple(coin for coin in bank[1] if coin[0] != number), *bank[2:])


def expected_call(bank):
    return ("call", "called") if bank[3] else (*bank[:3], True, bank[4])


def expected_choose(table, bank, row):
    for reason, holds in (("open", not bank[3]), ("outside", bank[1]), ("chosen", bank[4] is not None),
                          ("row", row not in reference.alive(table, bank[0]))):
        if holds:
            return ("choose", reason)
    return (*bank[:4], row)


def done(function, *arguments):
    """Return what the step returns, or (step, reason) of the InvalidStep that it raises."""
    try:
        return function(*arguments)
    except InvalidStep as error:
        return (error.step, error.reason)


class BankTests(unittest.TestCase):

    def refused(self, step, reason, function, *arguments):
        kept = copied(arguments)
        with self.assertRaises(InvalidStep) as caught:
            function(*arguments)
        self.assertEqual((caught.exception.step, caught.exception.reason), (step, reason))
        self.assertTrue(same(arguments, kept))

    def test_examples(self):
        self.refused("issue", "unsafe", issue, TABLE, BANK, (SMALL,))
        self.assertEqual(choose(TABLE, call(first_bank()), ("small", "wed")), ((), (), 0, True, ("small", "wed")))

    def test_first_bank(self):
        self.assertTrue(same(first_bank(), FIRST))

    def test_issue(self):
        bank, coin = issue(TABLE, first_bank(), (BIG,))
        self.assertTrue(same((bank, coin), (BANK, (0, (BIG,)))))
        bank, coin = issue(TABLE, bank, (MON, TUE))
        self.assertTrue(same(coin, (1, (MON, TUE))))
        self.assertTrue(same(bank, ((), ((0, (BIG,)), (1, (MON, TUE))), 2, False, None)))
        bank, coin = issue(TABLE, bank, ())
        self.assertTrue(same((bank[2], coin), (3, (2, ()))))

    def test_the_number_of_the_next_coin_never_falls(self):
        bank, _ = issue(TABLE, ((), ((4, (BIG,)),), 7, False, None), (TUE,))
        self.assertEqual(bank, ((), ((4, (BIG,)), (7, (TUE,))), 8, False, None))
        for step in (take_back(bank, 7), report(TABLE, bank, 7, TUE), take_back(take_back(bank, 7), 4)):
            self.assertEqual(step[2], 8)
            self.assertEqual(issue(TABLE, step, ())[1], (8, ()))

    def test_issue_is_refused(self):
        for scope in ((), (BIG,), ALL_PAIRS):
            self.refused("issue", "called", issue, TABLE, CALLED, scope)
            self.refused("issue", "called", issue, TABLE, EMPTY, scope)
        # Given the reported pairs, with the coins outside.
        self.refused("issue", "unsafe", issue, TABLE, ((BIG, MON), (), 2, False, None), (WED,))
        self.refused("issue", "unsafe", issue, TABLE, ((WED,), ((3, (BIG,)),), 4, False, None), (MON,))
        coin = (4, (BIG, TUE, WED))
        self.assertEqual(issue(TABLE, ((WED,), ((3, (BIG,)),), 4, False, None), coin[1])[1], coin)
        self.refused("issue", "unsafe", issue, COIN_TOSS, ((), ((0, (("a", "x"),)),), 1, False, None), (("a", "y"),))

    def test_one_more_coin_is_issued_exactly_within_the_widest_scope(self):
        for bank in (FIRST, BANK, ((WED,), ((3, (BIG,)),), 4, False, None),
                     ((TUE,), ((0, ()), (2, (SMALL,))), 3, False, None)):
            widest = widest_scope(TABLE, bank[0], bank[1])
            for scope in subsets(ALL_PAIRS):
                found = done(issue, TABLE, bank, scope)
                self.assertTrue(same(found, expected_issue(TABLE, bank, scope)))
                self.assertIs(found == ("issue", "unsafe"), not set(scope) <= set(widest))

    def test_unknown_pairs(self):
        """Before the reasons of the step; the arguments of the other steps are not checked against the table."""
        first = ("room", "mon")
        for bank in (FIRST, BANK, CALLED, EMPTY):
            for scope, pair in (((first,), first), ((BIG, ODD), ODD), ((BIG, first, WED, ODD), first),
                                ((BIG, first, SMALL), first)):
                with self.assertRaises(UnknownPair) as caught:
                    issue(TABLE, bank, scope)
                self.assertIs(caught.exception.pair, pair)
        self.refused("report", "scope", report, TABLE, BANK, 0, ODD)
        self.refused("report", "coin", report, TABLE, BANK, 1, ODD)
        self.refused("choose", "row", choose, TABLE, EMPTY, ("old", "new", "blue"))

    def test_report(self):
        bank = ((TUE,), ((1, (BIG, MON)), (4, (TUE, WED))), 6, False, None)
        self.assertTrue(same(report(TABLE, bank, 1, BIG), ((BIG, TUE), bank[1][1:], 6, False, None)))
        self.assertTrue(same(report(TABLE, bank, 1, MON), ((MON, TUE), bank[1][1:], 6, False, None)))
        self.assertTrue(same(report(TABLE, bank, 4, WED), ((TUE, WED), bank[1][:1], 6, False, None)))
        # A pair that another office has reported, too.
        self.assertTrue(same(report(TABLE, bank, 4, TUE), ((TUE,), bank[1][:1], 6, False, None)))
        # After the call as well.
        self.assertTrue(same(report(TABLE, CALLED, 0, BIG), ((BIG,), (), 1, True, None)))

    def test_report_is_refused(self):
        bank = ((TUE,), ((1, (BIG, MON)), (4, (WED,))), 6, False, None)
        for number in (0, 2, 3, 5, 6, 7, 10 ** 59):
            self.refused("report", "coin", report, TABLE, bank, number, BIG)
        for number, pair in ((1, WED), (1, TUE), (1, SMALL), (4, BIG), (4, ODD), (4, ("a", "b"))):
            self.refused("report", "scope", report, TABLE, bank, number, pair)
        self.refused("report", "coin", report, TABLE, report(TABLE, bank, 4, WED), 4, WED)
        self.refused("report", "coin", report, TABLE, take_back(bank, 1), 1, BIG)
        self.refused("report", "coin", report, TABLE, FIRST, 0, BIG)

    def test_take_back(self):
        bank = ((TUE,), ((1, (BIG, MON)), (4, (WED,))), 6, False, None)
        self.assertTrue(same(take_back(bank, 1), ((TUE,), bank[1][1:], 6, False, None)))
        self.assertTrue(same(take_back(bank, 4), ((TUE,), bank[1][:1], 6, False, None)))
        self.assertTrue(same(take_back(CALLED, 0), ((), (), 1, True, None)))
        for number in (0, 2, 3, 5, 6, 7, 10 ** 59):
            self.refused("take_back", "coin", take_back, bank, number)
        self.refused("take_back", "coin", take_back, take_back(bank, 4), 4)
        self.refused("take_back", "coin", take_back, FIRST, 0)

    def test_call(self):
        self.assertTrue(same(call(BANK), CALLED))
        self.assertTrue(same(call(FIRST), ((), (), 0, True, None)))
        for bank in (CALLED, call(FIRST), EMPTY, (*EMPTY[:4], ("big", "tue"))):
            self.refused("call", "called", call, bank)

    def test_choose(self):
        for row in TABLE[1]:
            self.assertTrue(same(choose(TABLE, call(FIRST), row), ((), (), 0, True, row)))
        for row in (("big", "tue"), ("small", "wed")):
            self.assertTrue(same(choose(TABLE, EMPTY, row), (*EMPTY[:4], row)))

    def test_choose_is_refused(self):
        row = ("big", "tue")
        self.refused("choose", "open", choose, TABLE, FIRST, row)
        self.refused("choose", "open", choose, TABLE, BANK, ("big", "wed"))
        self.refused("choose", "outside", choose, TABLE, CALLED, row)
        self.refused("choose", "outside", choose, TABLE, CALLED, ())
        for other in (row, ("small", "wed"), ("big", "wed"), ()):
            self.refused("choose", "chosen", choose, TABLE, choose(TABLE, EMPTY, row), other)
        # Not alive for the reported pairs, no row of the table.
        for other in (("big", "mon"), ("small", "mon"), ("big", "wed"), ("small", "tue"), ("big",), ("tue", "big"),
                      ("big", "tue", "tue"), (), ("abcdefgh", "b")):
            self.refused("choose", "row", choose, TABLE, EMPTY, other)

    def test_by_position_and_by_name(self):
        self.assertEqual(issue(table=TABLE, bank=FIRST, scope=(BIG,)), issue(TABLE, FIRST, (BIG,)))
        self.assertEqual(report(table=TABLE, bank=BANK, number=0, pair=BIG), report(TABLE, BANK, 0, BIG))
        self.assertEqual(take_back(bank=BANK, number=0), take_back(BANK, 0))
        self.assertEqual(call(bank=BANK), CALLED)
        self.assertEqual(choose(table=TABLE, bank=EMPTY, row=("big", "tue")), (*EMPTY[:4], ("big", "tue")))

    def test_histories(self):
        """Each step of many histories does what the document says; what it returns is a valid bank again."""
        draw = random.Random(52)
        met = set()
        for k in range(150):
            table = (*SMALL_TABLES, WIDE, drawn_table(draw, 3, 3, 6))[k % 6]
            bank = first_bank()
            for _ in range(14):
                bank = self.step(table, bank, draw, met)
        self.assertEqual(met, {
            ("issue", "called"), ("issue", "unsafe"), ("report", "coin"), ("report", "scope"), ("take_back", "coin"),
            ("call", "called"), ("choose", "open"), ("choose", "outside"), ("choose", "chosen"), ("choose", "row")})

    def step(self, table, bank, draw, met):
        pairs = reference.pairs_of(table)
        number = draw.choice([*dict(bank[1]), draw.randint(0, 4)])
        scope, pair = drawn_scope(draw, pairs, 3), draw.choice([*dict(bank[1]).get(number, ()), ODD, *pairs[:1]])
        row = draw.choice(table[1])
        kept = copied((table, bank, scope))
        results = [(done(issue, table, bank, scope), expected_issue(table, bank, scope))] * 2
        results += [(done(report, table, bank, number, pair), expected_report(bank, number, pair)),
                    (done(take_back, bank, number), expected_take_back(bank, number)),
                    (done(call, bank), expected_call(bank)),
                    (done(choose, table, bank, row), expected_choose(table, bank, row))]
        self.assertTrue(same((table, bank, scope), kept))
        banks = []
        for found, expected in results:
            self.assertTrue(same(found, expected), (table, bank, found, expected))
            if len(found) == 2 and type(found[0]) is str:
                met.add(found)
            else:
                banks.append(found[0] if len(found) == 2 else found)
        for after in banks:
            self.check_valid(table, after)
        return draw.choice(banks or [bank])

    def check_valid(self, table, bank):
        reported, outside, following, is_called, row = bank
        self.assertEqual(reported, tuple(sorted(set(reported))))
        self.assertTrue(all(number < following for number in dict(outside)))
        self.assertLessEqual(len(reported), following - len(outside))
        self.assertTrue(reference.safe(table, reported, outside))
        self.assertTrue(row is None or is_called and not outside and row in reference.alive(table, reported))

    def test_at_the_limits(self):
        for table in (full_table(4, 5, 24), SQUARE, DIAGONAL):
            pairs = tuple(reference.pairs_of(table))
            bank = first_bank()
            for k in range(5):
                widest = widest_scope(table, (), bank[1])
                bank, coin = issue(table, bank, widest if k == 4 else pairs[k:k + 1] if pairs[k] in widest else ())
                self.assertEqual(coin[0], k)
            for pair in set(pairs) - set(widest_scope(table, (), bank[1])):
                self.refused("issue", "unsafe", issue, table, bank, (pair,))


if __name__ == "__main__":
    unittest.main()
