"""Point 53: the checker of banks."""

import random
import unittest

from chosenlast.bankchecker import lets_bank
from chosenlast.banks import call, choose, first_bank, issue, report, take_back
from chosenlast.errors import InvalidPaper, InvalidStep
from tests import entries, reference
from tests.values import (
    ANY_VALUES, COIN_TOSS, SMALL_TABLES, TABLE, WIDE, checked, coins_of, copied, drawn_scope, drawn_table, full_table,
    limit_coins, nested, same, subsets, variants)

BIG, SMALL = ("room", "big"), ("room", "small")
MON, TUE, WED = ("time", "mon"), ("time", "tue"), ("time", "wed")
ALL_PAIRS = (BIG, SMALL, MON, TUE, WED)
ODD = ("year", "old")

FIRST = ((), (), 0, False, None)
# Valid banks: with coins outside, called, and with a row.
BANK = ((WED,), ((3, (BIG,)), (5, (BIG, TUE))), 7, False, None)
CALLED = ((MON,), ((4, ()),), 5, True, None)
CHOSEN = ((MON, TUE), (), 2, True, ("small", "wed"))


class BankCheckerTests(unittest.TestCase):

    def refused(self, word, at, thing, table=TABLE):
        kept = copied(thing)
        with self.assertRaises(InvalidPaper) as caught:
            lets_bank(table, thing)
        self.assertTrue(same((caught.exception.word, caught.exception.at), (word, at)), (thing, vars(caught.exception)))
        self.assertTrue(same(thing, kept))

    def agrees(self, thing, table=TABLE):
        found, expected = checked(lets_bank, table, thing), entries.bank(table, thing)
        self.assertTrue(same(found, True if expected is None else expected), (table, thing, found, expected))

    def test_examples(self):
        self.refused("row", -1, ((), (), 0, False, ("big", "mon")))
        self.assertIs(lets_bank(TABLE, ((), ((0, (BIG,)),), 1, False, None)), True)

    def test_accepted(self):
        for bank in (FIRST, BANK, CALLED, CHOSEN, ((), (), 10 ** 59, False, None), ((), (), 0, True, None),
                     ((), (), 0, True, ("big", "tue")), ((BIG,), ((0, ()),), 2, True, None),
                     ((), ((0, ALL_PAIRS),), 1, False, None)):
            self.assertIs(lets_bank(TABLE, bank), True)
            self.assertIs(lets_bank(thing=bank, table=TABLE), True)

    def test_any_value(self):
        for thing in (*ANY_VALUES, nested(tuple, 30), FIRST[:4], (*FIRST, None), list(FIRST), (FIRST,)):
            self.refused("shape", -1, thing)
            for k in range(5):
                self.agrees((*BANK[:k], thing, *BANK[k + 1:]))
                self.agrees((*CHOSEN[:k], thing, *CHOSEN[k + 1:]))

    def test_shape(self):
        for k, part in ((0, [BIG]), (0, (MON, BIG)), (0, (BIG, BIG)), (0, (list(BIG),)), (0, BIG), (0, None),
                        (1, [(3, (BIG,))]), (1, ((3, [BIG]),)), (1, ([3, (BIG,)],)), (1, ((5, ()), (3, ()))),
                        (1, ((3, ()), (3, (BIG,)))), (1, ((True, ()),)), (1, ((-1, ()),)), (1, ((3, (MON, BIG)),)),
                        (2, -1), (2, True), (2, None), (2, "7"), (3, 0), (3, 1), (3, None), (3, "yes"),
                        (4, ["big", "mon"]), (4, "big"), (4, ("Big", "mon")), (4, False), (4, 0), (4, ("big", 1))):
            self.refused("shape", -1, (*BANK[:k], part, *BANK[k + 1:]))

    def test_true_is_not_one(self):
        self.assertIs(lets_bank(TABLE, ((), (), 1, False, None)), True)
        self.refused("shape", -1, ((), (), True, False, None))
        self.refused("shape", -1, ((), (), 1, 0, None))
        self.refused("shape", -1, ((), ((False, ()),), 1, False, None))

    def test_pair(self):
        first, other = ("room", "mon"), ("time", "zoo")
        for reported, k in (((first,), 0), ((BIG, first), 1), ((BIG, first, SMALL, other), 1), ((MON, other, ODD), 1),
                            ((BIG, SMALL, ODD), 2)):
            self.refused("pair", k, (tuple(sorted(reported)), (), 9, False, None))

    def test_scope_and_number_coin_by_coin(self):
        for outside, word, at in (
                (((3, (ODD,)),), "scope", (0, 0)), (((3, (BIG, MON, ODD)),), "scope", (0, 2)),
                (((3, (BIG,)), (4, (BIG, ("room", "old"), SMALL))), "scope", (1, 1)),
                (((7, ()),), "number", 0), (((3, ()), (7, ()), (8, (ODD,))), "number", 1),
                (((3, ()), (10 ** 59, (BIG,))), "number", 1), (((3, (ODD,)), (9, ())), "scope", (0, 0)),
                (((8, (BIG, ODD)), (9, (ODD,))), "scope", (0, 1)), (((8, (BIG,)), (9, (ODD,))), "number", 0)):
            self.refused(word, at, ((WED,), outside, 7, False, None))
        self.refused("number", 0, ((), ((0, ()),), 0, False, None))

    def test_many(self):
        for reported, outside, following in (((BIG,), (), 0), ((BIG, MON), (), 1), ((WED,), ((0, ()),), 1),
                                             ((WED,), ((0, ()), (1, ())), 2), ((WED,), ((0, ()), (2, ())), 3),
                                             ((BIG, MON, TUE), ((1, ()), (2, ())), 4)):
            if len(reported) + len(outside) > following:
                self.refused("many", -1, (reported, outside, following, False, None))
                following = len(reported) + len(outside)
            for more in range(3):
                self.agrees((reported, outside, following + more, False, None))
        # As many reported pairs as there can be.
        self.assertIs(lets_bank(TABLE, ((WED,), ((0, ()), (2, ())), 3, False, None)), True)
        self.refused("many", -1, ((TUE, WED), ((0, ()), (2, ())), 3, False, None))

    def test_unsafe(self):
        for reported, outside in (((BIG, SMALL), ()), ((MON, TUE, WED), ()), ((BIG, MON, WED), ()),
                                  ((), ((0, (BIG,)), (1, (SMALL,)))), ((WED,), ((0, (BIG,)), (4, (MON,))))):
            for is_called in (False, True):
                self.refused("unsafe", -1, (reported, outside, 9, is_called, None))
        self.refused("unsafe", -1, ((), ((0, (("a", "x"),)), (1, (("a", "y"),))), 2, False, None), COIN_TOSS)

    def test_row(self):
        row = ("small", "wed")
        for bank in (((), (), 2, False, row), ((), ((0, ()),), 2, True, row), ((), ((0, ()),), 2, False, row),
                     ((WED,), (), 2, True, row), ((), (), 2, True, ("small", "tue")), ((), (), 2, True, ()),
                     ((), (), 2, True, ("wed", "small")), ((), (), 2, True, ("small", "wed", "wed"))):
            self.refused("row", -1, bank)
            self.assertIs(lets_bank(TABLE, (*bank[:4], None)), True)

    def test_the_first_entry_is_raised(self):
        """Each value has all the faults from one entry on."""
        self.refused("shape", -1, ((ODD,), ((9, (ODD,)),), 1, 0, ()))
        self.refused("pair", 0, ((ODD,), ((9, (ODD,)),), 1, False, ()))
        self.refused("scope", (0, 0), ((BIG, SMALL), ((9, (ODD,)),), 1, False, ()))
        self.refused("number", 0, ((BIG, SMALL), ((9, ()),), 1, False, ()))
        self.refused("many", -1, ((BIG, SMALL), ((0, ()),), 1, False, ()))
        self.refused("unsafe", -1, ((BIG, SMALL), ((0, ()),), 3, False, ()))
        self.refused("row", -1, ((BIG,), ((0, ()),), 3, False, ()))

    def test_changed_banks(self):
        for bank in (FIRST, BANK, CALLED, CHOSEN):
            for thing in variants(bank):
                self.agrees(thing)
                if type(thing) is tuple:
                    for worse in list(variants(thing))[::9]:
                        self.agrees(worse)

    def test_all_small_banks(self):
        pairs = reference.pairs_of(COIN_TOSS)
        scopes = subsets(pairs)
        outsides = [()] + [((0, scope),) for scope in scopes]
        outsides += [((0, left), (2, right)) for left in scopes for right in scopes]
        for reported in scopes:
            for outside in outsides:
                for following in range(5):
                    for is_called in (False, True):
                        for row in (None, ("x",), ("y",), ("z",)):
                            self.agrees((reported, outside, following, is_called, row), COIN_TOSS)

    def test_drawn_banks(self):
        draw = random.Random(53)
        for k in range(400):
            table = (*SMALL_TABLES, WIDE, drawn_table(draw, 3, 3, 6))[k % 6]
            pairs = reference.pairs_of(table)
            outside = coins_of(*[drawn_scope(draw, pairs, 2) for _ in range(draw.choice((0, 0, 1, 2, 3)))])
            row = draw.choice([None, *table[1]])
            self.agrees((drawn_scope(draw, pairs, 3), outside, draw.randint(2, 12), row is not None, row), table)

    def test_every_bank_that_the_steps_lead_to(self):
        draw = random.Random(1053)
        for k in range(90):
            table = (*SMALL_TABLES, WIDE, drawn_table(draw, 3, 3, 6))[k % 6]
            pairs = reference.pairs_of(table)
            bank = first_bank()
            for _ in range(16):
                number, scope = draw.choice([0, *dict(bank[1])]), drawn_scope(draw, pairs, 3)
                step, *arguments = draw.choice((
                    (issue, table, bank, scope), (issue, table, bank, scope), (take_back, bank, number),
                    (report, table, bank, number, draw.choice([*dict(bank[1]).get(number, ()), pairs[0]])),
                    (call, bank) if draw.random() < 0.4 else (issue, table, bank, scope),
                    (choose, table, bank, draw.choice(table[1]))))
                try:
                    found = step(*arguments)
                except InvalidStep:
                    continue
                bank = found[0] if step is issue else found
                self.assertIs(lets_bank(table, bank), True)

    def test_at_the_limits(self):
        for table, coins in limit_coins():
            bank = ((), coins, 15, False, None)
            self.assertIn(checked(lets_bank, table, bank), (True, ("unsafe", -1)))
            self.assertIs(lets_bank(table, ((), (), 0, True, table[1][-1])), True)
        table = full_table(4, 5, 24)
        pairs = reference.pairs_of(table)
        coins = coins_of(*[(pair,) for pair in pairs[:5]])
        self.assertTrue(same(checked(lets_bank, table, ((), coins, 15, False, None)), ("unsafe", -1)
                        if reference.breaks(table, (), pairs[:5]) else True))


if __name__ == "__main__":
    unittest.main()
