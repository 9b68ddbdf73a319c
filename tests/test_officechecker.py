"""Point 54: the checker of offices."""

import random
import unittest

from chosenlast.errors import InvalidPaper
from chosenlast.officechecker import lets_office
from tests import entries, reference
from tests.values import (
    ANY_VALUES, COIN_TOSS, COINS, SMALL_TABLES, TABLE, WIDE, checked, coins_of, copied, drawn_scope, drawn_table,
    limit_coins, nested, same, subsets, variants)

BIG, SMALL = ("room", "big"), ("room", "small")
MON, TUE, WED = ("time", "mon"), ("time", "tue"), ("time", "wed")
ALL_PAIRS = (BIG, SMALL, MON, TUE, WED)
ODD = ("year", "old")

FIRST = ((), (), False)
OFFICE = ((WED,), ((3, (BIG,)), (5, (BIG, TUE))), False)
CALLED = ((BIG, MON), (), True)


class OfficeCheckerTests(unittest.TestCase):

    def refused(self, word, at, thing, table=TABLE):
        kept = copied(thing)
        with self.assertRaises(InvalidPaper) as caught:
            lets_office(table, thing)
        self.assertTrue(same((caught.exception.word, caught.exception.at), (word, at)), (thing, vars(caught.exception)))
        self.assertTrue(same(thing, kept))

    def agrees(self, thing, table=TABLE):
        found, expected = checked(lets_office, table, thing), entries.office(table, thing)
        self.assertTrue(same(found, True if expected is None else expected), (table, thing, found, expected))

    def test_example(self):
        self.refused("unsafe", -1, ((BIG, SMALL), (), False))

    def test_accepted(self):
        for office in (FIRST, OFFICE, CALLED, ((), COINS, False), ((), (), True), ((), ((0, ALL_PAIRS),), False),
                       ((BIG, MON), ((10 ** 59, (BIG, MON)),), False)):
            self.assertIs(lets_office(TABLE, office), True)
            self.assertIs(lets_office(thing=office, table=TABLE), True)

    def test_any_value(self):
        for thing in (*ANY_VALUES, nested(tuple, 30), FIRST[:2], (*FIRST, None), list(FIRST), (FIRST,)):
            self.refused("shape", -1, thing)
            for office in (FIRST, OFFICE, CALLED):
                for k in range(3):
                    self.agrees((*office[:k], thing, *office[k + 1:]))

    def test_shape(self):
        for k, part in ((0, [BIG]), (0, (MON, BIG)), (0, (BIG, BIG)), (0, (list(BIG),)), (0, BIG), (0, None),
                        (1, [(3, (BIG,))]), (1, ((3, [BIG]),)), (1, ([3, (BIG,)],)), (1, ((5, ()), (3, ()))),
                        (1, ((3, ()), (3, (BIG,)))), (1, ((True, ()),)), (1, ((-1, ()),)), (1, ((3, (MON, BIG)),)),
                        (2, 0), (2, 1), (2, None), (2, "no"), (2, ())):
            self.refused("shape", -1, (*OFFICE[:k], part, *OFFICE[k + 1:]))

    def test_pair(self):
        first, other = ("room", "mon"), ("time", "zoo")
        for struck, k in (((first,), 0), ((BIG, first), 1), ((BIG, first, SMALL, other), 1), ((MON, other, ODD), 1)):
            for coins, is_called in (((), False), (((2, (ODD,)),), True)):
                self.refused("pair", k, (struck, coins, is_called))

    def test_scope(self):
        for coins, at in ((((3, (ODD,)),), (0, 0)), (((3, (BIG, MON, ODD)),), (0, 2)),
                          (((3, ALL_PAIRS), (4, (BIG, ("room", "old"), SMALL, ODD)), (7, (ODD,))), (1, 1))):
            for is_called in (False, True):
                self.refused("scope", at, ((BIG, SMALL), coins, is_called))

    def test_called(self):
        for coins in (((0, ()),), ((3, (BIG,)),), COINS, coins_of(ALL_PAIRS, ALL_PAIRS)):
            for struck in ((), (WED,), (BIG, SMALL)):
                self.refused("called", -1, (struck, coins, True))

    def test_unsafe(self):
        for struck, coins in (((BIG, SMALL), ()), ((MON, TUE, WED), ()), ((BIG, MON, WED), ()), ((WED,), COINS),
                              ((), ((0, (BIG,)), (1, (SMALL,))))):
            self.refused("unsafe", -1, (struck, coins, False))
        self.refused("unsafe", -1, (ALL_PAIRS, (), True))

    def test_changed_offices(self):
        for office in (FIRST, OFFICE, CALLED):
            for thing in variants(office):
                self.agrees(thing)
                if type(thing) is tuple:
                    for worse in list(variants(thing))[::7]:
                        self.agrees(worse)

    def test_all_small_offices(self):
        scopes = subsets(reference.pairs_of(COIN_TOSS))
        held = [()] + [((4, scope),) for scope in scopes]
        held += [((0, left), (2, right)) for left in scopes for right in scopes]
        for struck in scopes:
            for coins in held:
                for is_called in (False, True):
                    self.agrees((struck, coins, is_called), COIN_TOSS)

    def test_drawn_offices(self):
        draw = random.Random(1054)
        for k in range(300):
            table = (*SMALL_TABLES, WIDE, drawn_table(draw, 3, 3, 6))[k % 6]
            pairs = reference.pairs_of(table)
            coins = coins_of(*[drawn_scope(draw, pairs, 2) for _ in range(draw.choice((0, 1, 2, 3)))])
            self.agrees((drawn_scope(draw, pairs, 2), coins, draw.random() < 0.2), table)

    def test_at_the_limits(self):
        for table, coins in limit_coins():
            self.assertIn(checked(lets_office, table, ((), coins, False)), (True, ("unsafe", -1)))
            self.refused("called", -1, ((), coins, True), table)


if __name__ == "__main__":
    unittest.main()
