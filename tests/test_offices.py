"""Points 54 and 55: the steps of an office, with points 4, 7, 8, 12 and 42."""

import itertools
import random
import unittest

from chosenlast.errors import InvalidStep, UnknownName
from chosenlast.officechecker import lets_office
from chosenlast.offices import answer_with, answers_open, be_called, first_office, give, hear, narrow, take
from chosenlast.questions import forced_answer
from chosenlast.reaching import can_lead
from chosenlast.safety import is_safe
from tests import reference
from tests.values import (
    COIN_TOSS, COINS, PROGRAM, SMALL_TABLES, TABLE, WIDE, coins_of, copied, deep_program, drawn_scope, drawn_table,
    full_table, same, subsets)

BIG, SMALL = ("room", "big"), ("room", "small")
MON, TUE, WED = ("time", "mon"), ("time", "tue"), ("time", "wed")
ALL_PAIRS = (BIG, SMALL, MON, TUE, WED)
ODD = ("year", "old")

OFFICE = ((), COINS, False)
CALLED = ((BIG,), (), True)


def expected_answer(table, office, item, chosen, answer, numbers):
    """Return what answer_with must return, or the reason why it refuses, by the words of the document."""
    struck, coins, is_called = office
    strikes = reference.strikes(table, item, chosen, answer)
    if reference.breaks(table, struck, strikes):
        return "none"
    paid = [pair for pair in strikes if pair not in reference.dead(table, struck)]
    if is_called and paid:
        return "called"
    if len(numbers) != len(paid):
        return "many"
    for number, pair in zip(numbers, paid):
        if numbers.count(number) > 1 or pair not in dict(coins).get(number, ()):
            return "coin"
    left = tuple(coin for coin in coins if coin[0] not in numbers)
    return (tuple(sorted({*struck, *strikes})), left, is_called), tuple(zip(numbers, paid))


def answered(*arguments):
    """Return what answer_with returns, or the reason of the InvalidStep that it raises."""
    try:
        return answer_with(*arguments)
    except InvalidStep as error:
        assert error.step == "answer_with"
        return error.reason


class OfficeTests(unittest.TestCase):

    def refused(self, step, reason, function, *arguments):
        kept = copied(arguments)
        with self.assertRaises(InvalidStep) as caught:
            function(*arguments)
        self.assertTrue(same((caught.exception.step, caught.exception.reason), (step, reason)))
        self.assertTrue(same(arguments, kept))

    def test_examples(self):
        self.assertEqual(give(OFFICE, 1), (((), ((0, (BIG, TUE)),), False), (1, (MON,))))
        self.assertEqual(answer_with(TABLE, OFFICE, "time", ("wed",), "yes", (1, 0)),
                         (((MON, TUE), (), False), ((1, MON), (0, TUE))))
        self.assertEqual(answers_open(TABLE, OFFICE, "room", ("big",)), ("no",))

    def test_first_office(self):
        self.assertTrue(same(first_office(), ((), (), False)))

    def test_take(self):
        self.assertTrue(same(take(first_office(), (4, (BIG,))), ((), ((4, (BIG,)),), False)))
        office = ((WED,), ((3, (BIG,)), (8, ())), False)
        self.assertTrue(same(take(office, (0, (TUE,))), ((WED,), ((0, (TUE,)), (3, (BIG,)), (8, ())), False)))
        self.assertTrue(same(take(office, (5, ())), ((WED,), ((3, (BIG,)), (5, ()), (8, ())), False)))
        self.assertTrue(same(take(office, (10 ** 59, (MON,))), ((WED,), (*office[1], (10 ** 59, (MON,))), False)))
        # Not checked: pairs that no table has, coins that are unsafe.
        self.assertTrue(same(take(office, (9, (ODD,))), ((WED,), (*office[1], (9, (ODD,))), False)))
        self.assertTrue(same(take(office, (9, ALL_PAIRS)), ((WED,), (*office[1], (9, ALL_PAIRS)), False)))

    def test_coins_in_any_order_end_in_ascending_order(self):
        for numbers in itertools.permutations((0, 2, 3, 11)):
            office = first_office()
            for number in numbers:
                office = take(office, (number, (MON,)))
            self.assertEqual(office, ((), tuple((number, (MON,)) for number in (0, 2, 3, 11)), False))

    def test_take_is_refused(self):
        for coin in ((0, ()), (1, (BIG,))):
            self.refused("take", "called", take, CALLED, coin)
        for coin in ((0, ()), (0, (BIG, TUE)), (1, (MON,)), (1, (ODD,))):
            self.refused("take", "coin", take, OFFICE, coin)

    def test_give(self):
        office = ((WED,), ((3, (BIG,)), (5, (ODD,)), (8, ())), False)
        for k in range(3):
            left = office[1][:k] + office[1][k + 1:]
            self.assertTrue(same(give(office, office[1][k][0]), (((WED,), left, False), office[1][k])))

    def test_give_is_refused(self):
        for office in (first_office(), CALLED, OFFICE, give(OFFICE, 0)[0]):
            for number in (0, 2, 3, 10 ** 59):
                if number not in dict(office[1]):
                    self.refused("give", "coin", give, office, number)

    def test_narrow(self):
        office = ((WED,), ((3, (BIG,)), (5, (BIG, MON, TUE)), (8, ())), False)
        for scope in subsets((BIG, MON, TUE)):
            self.assertTrue(same(narrow(office, 5, scope), ((WED,), (office[1][0], (5, scope), office[1][2]), False)))
        for number, scope in office[1]:
            self.assertTrue(same(narrow(office, number, scope), office))
            self.assertEqual(narrow(office, number, ()), (
                (WED,), tuple((other, () if other == number else old) for other, old in office[1]), False))
        # What no table has may stand in a scope, and stay there.
        odd = ((), ((3, (BIG, ODD)),), False)
        self.assertTrue(same(narrow(odd, 3, (ODD,)), ((), ((3, (ODD,)),), False)))

    def test_narrow_is_refused(self):
        office = ((WED,), ((3, (BIG,)), (5, (BIG, MON))), False)
        for number in (0, 4, 10 ** 59):
            for scope in ((), (BIG,), ALL_PAIRS):
                self.refused("narrow", "coin", narrow, office, number, scope)
        self.refused("narrow", "coin", narrow, CALLED, 3, ())
        for number, scope in ((3, (MON,)), (3, (BIG, MON)), (3, (ODD,)), (3, (BIG, ODD)), (5, (BIG, MON, TUE)),
                              (5, (SMALL,)), (3, ALL_PAIRS)):
            self.refused("narrow", "scope", narrow, office, number, scope)

    def test_hear(self):
        self.assertTrue(same(hear(OFFICE, (WED,)), ((WED,), COINS, False)))
        self.assertTrue(same(hear(((SMALL, TUE), COINS, False), (BIG, TUE, WED)),
                             ((BIG, SMALL, TUE, WED), COINS, False)))
        for office in (first_office(), OFFICE, CALLED, ((BIG, WED), (), False)):
            self.assertTrue(same(hear(office, ()), office))
            self.assertTrue(same(hear(office, office[0]), office))
            self.assertTrue(same(hear(office, ALL_PAIRS), (ALL_PAIRS, *office[1:])))
            self.assertEqual(hear(office, (("a", "b"), ODD))[0], (("a", "b"), *office[0], ODD))

    def test_be_called(self):
        self.assertTrue(same(be_called(OFFICE), (((), (), True), COINS)))
        self.assertTrue(same(be_called(((WED,), ((2, (ODD,)),), False)), (((WED,), (), True), ((2, (ODD,)),))))
        self.assertTrue(same(be_called(first_office()), (((), (), True), ())))
        for office in (CALLED, be_called(OFFICE)[0]):
            self.refused("be_called", "called", be_called, office)

    def test_answer_with(self):
        office = ((WED,), ((1, (MON, TUE)), (2, (SMALL,)), (6, (BIG, TUE))), False)
        found = answer_with(TABLE, office, "time", ("mon",), "yes", (6,))
        self.assertTrue(same(found, (((TUE, WED), office[1][:2], False), ((6, TUE),))))
        found = answer_with(TABLE, office, "time", ("mon",), "yes", (1,))
        self.assertTrue(same(found, (((TUE, WED), office[1][1:], False), ((1, TUE),))))
        found = answer_with(TABLE, office, "room", ("big",), "yes", (2,))
        self.assertTrue(same(found, (((SMALL, WED), (office[1][0], office[1][2]), False), ((2, SMALL),))))

    def test_reports_in_ascending_order_of_the_pairs(self):
        coins = ((1, (TUE,)), (2, (MON,)), (3, (MON, TUE)))
        for numbers in ((2, 1), (3, 1), (2, 3)):
            found = answer_with(TABLE, ((), coins, False), "time", ("wed",), "yes", numbers)
            self.assertTrue(same(found[1], ((numbers[0], MON), (numbers[1], TUE))))
            self.assertEqual(found[0], ((MON, TUE), tuple(coin for coin in coins if coin[0] not in numbers), False))

    def test_the_reasons_in_order(self):
        office = ((WED,), ((1, (MON, TUE)), (2, (SMALL,))), False)
        refused = self.refused
        # No row would be alive; everything else is wrong, too.
        refused("answer_with", "none", answer_with, TABLE, office, "time", (), "yes", (7, 7, 7))
        refused("answer_with", "none", answer_with, TABLE, office, "time", ("wed",), "yes", ())
        refused("answer_with", "none", answer_with, TABLE, CALLED, "room", ("big",), "yes", (7,))
        refused("answer_with", "none", answer_with, TABLE, ((BIG, SMALL), (), False), "room", ("big",), "no", ())
        refused("answer_with", "none", answer_with, TABLE, ((BIG, SMALL), (), True), "room", (), "no", ())
        # It was called, and there are paid pairs.
        refused("answer_with", "called", answer_with, TABLE, CALLED, "time", ("mon",), "yes", (1,))
        refused("answer_with", "called", answer_with, TABLE, CALLED, "time", ("mon",), "no", ())
        # More or fewer numbers than paid pairs, also if there are none.
        for numbers in ((), (1, 2), (7, 7, 7)):
            refused("answer_with", "many", answer_with, TABLE, office, "time", ("mon",), "yes", numbers)
        for numbers in ((1,), (7, 7)):
            refused("answer_with", "many", answer_with, TABLE, office, "time", ("wed",), "no", numbers)
            refused("answer_with", "many", answer_with, TABLE, CALLED, "room", ("big",), "no", numbers)
        # Unknown, with another scope, twice.
        for numbers in ((0,), (7,), (2,), (10 ** 59,)):
            refused("answer_with", "coin", answer_with, TABLE, office, "time", ("mon",), "yes", numbers)
        office = ((), ((1, (MON, TUE)), (3, (MON,)), (5, (TUE,))), False)
        for numbers in ((1, 1), (3, 3), (3, 7), (7, 5), (5, 3), (1, 3), (5, 1)):
            refused("answer_with", "coin", answer_with, TABLE, office, "time", ("wed",), "yes", numbers)

    def test_forced_answers_cost_nothing(self):
        for struck in subsets(ALL_PAIRS):
            for coins, is_called in (((), True), ((), False), (COINS, False)):
                if is_safe(TABLE, struck, coins):
                    for item, chosen in reference.questions(TABLE):
                        self.check_forced(struck, coins, is_called, item, chosen)

    def check_forced(self, struck, coins, is_called, item, chosen):
        office = (struck, coins, is_called)
        state = forced_answer(TABLE, struck, item, chosen)
        if state in ("yes", "no"):
            strikes = reference.strikes(TABLE, item, chosen, state)
            found = answer_with(TABLE, office, item, chosen, state, ())
            self.assertTrue(same(found, ((tuple(sorted({*struck, *strikes})), coins, is_called), ())))
            self.assertEqual(answers_open(TABLE, office, item, chosen), (state,))
        elif is_called:
            self.assertEqual(answers_open(TABLE, office, item, chosen), ())
            for answer in ("yes", "no"):
                self.assertEqual(answered(TABLE, office, item, chosen, answer, ()), "called")

    def test_answers_open(self):
        office = ((), ((0, (BIG,)), (1, (MON, TUE)), (5, ())), False)
        self.assertIs(lets_office(TABLE, office), True)
        for item, chosen, found in (("room", ("big",), ("no",)), ("room", ("small",), ("yes",)), ("room", (), ("no",)),
                                    ("room", ("big", "small"), ("yes",)), ("time", ("mon",), ("no",)),
                                    ("time", ("mon", "wed"), ("yes",)), ("time", ("mon", "tue"), ())):
            self.assertTrue(same(answers_open(TABLE, office, item, chosen), found), (item, chosen))
        both = ((), ((0, (MON, TUE)), (1, (WED,))), False)
        self.assertIs(lets_office(TABLE, both), True)
        self.assertTrue(same(answers_open(TABLE, both, "time", ("mon",)), ("no", "yes")))
        self.assertTrue(same(answers_open(TABLE, both, "time", ("tue", "wed")), ("no", "yes")))
        for item, chosen in reference.questions(TABLE):
            self.assertEqual(answers_open(TABLE, ((BIG, SMALL), (), False), item, chosen), ())

    def test_unknown_names(self):
        """Before all else: the item, then the first chosen one that is no candidate of it."""
        called = ((BIG, SMALL), (), True)
        for item, chosen, name in (("year", (), "year"), ("year", ("old", "big"), "year"), ("big", ("big",), "big"),
                                   ("room", ("big", "mon", "old"), "mon"), ("room", ("mon",), "mon"),
                                   ("time", ("big", "mon", "tue"), "big"), ("time", ("mon", "tue", "zoo"), "zoo")):
            for office in (OFFICE, CALLED, called):
                calls = [(answer_with, (TABLE, office, item, chosen, answer, numbers))
                         for answer in ("yes", "no") for numbers in ((), (7, 7))]
                for function, arguments in [*calls, (answers_open, (TABLE, office, item, chosen))]:
                    with self.assertRaises(UnknownName) as caught:
                        function(*arguments)
                    self.assertEqual(caught.exception.name, name)
                    self.assertTrue(any(caught.exception.name is known for known in (item, *chosen)))

    def test_all_answers(self):
        """With all tuples of numbers that could be given, on valid offices of small tables."""
        draw = random.Random(54)
        met = set()
        for k in range(60):
            table = (*SMALL_TABLES, WIDE, drawn_table(draw, 3, 3, 6))[k % 6]
            pairs = reference.pairs_of(table)
            struck = drawn_scope(draw, pairs, 2)
            coins = coins_of(*[drawn_scope(draw, pairs, 3) for _ in range(draw.randint(0, 3))])
            office = (struck, () if k % 5 == 0 else coins, k % 5 == 0)
            if not reference.safe(table, struck, office[1]):
                continue
            for item, chosen in draw.sample(reference.questions(table), 3):
                met |= self.check_answers(table, office, item, chosen)
        self.assertEqual(met, {"none", "called", "many", "coin", "done"})

    def check_answers(self, table, office, item, chosen):
        numbers = [*dict(office[1]), 77]
        tried = [some for size in range(4) for some in itertools.product(numbers, repeat=size)]
        met, possible = set(), []
        for answer in ("no", "yes"):
            results = []
            for some in tried:
                kept = copied(office)
                found = answered(table, office, item, chosen, answer, some)
                self.assertTrue(same(found, expected_answer(table, office, item, chosen, answer, some)))
                self.assertTrue(same(office, kept))
                results.append(found)
                if type(found) is tuple:
                    # The office stays valid; all pairs that the answer strikes are struck.
                    self.assertIs(lets_office(table, found[0]), True)
                    self.assertTrue(set(reference.strikes(table, item, chosen, answer)) <= set(found[0][0]))
            done = [found for found in results if type(found) is tuple]
            met |= {found for found in results if type(found) is str} | ({"done"} if done else set())
            if done:
                possible.append(answer)
        self.assertTrue(same(answers_open(table, office, item, chosen), tuple(possible)))
        return met

    def test_no_office_can_pay_for_what_leaves_no_row(self):
        """Guarantee C4: if the coins are safe, "none" is never the reason alone."""
        for struck in subsets(ALL_PAIRS):
            for coins in ((), COINS, coins_of(ALL_PAIRS), coins_of((BIG, MON), (BIG, WED)),
                          coins_of(ALL_PAIRS, (BIG,))):
                if is_safe(TABLE, struck, coins):
                    for (item, chosen), answer in itertools.product(reference.questions(TABLE), ("yes", "no")):
                        strikes = reference.strikes(TABLE, item, chosen, answer)
                        paid = [pair for pair in strikes if pair not in reference.dead(TABLE, struck)]
                        if reference.pays(coins, paid):
                            self.assertFalse(reference.breaks(TABLE, struck, strikes))

    def test_an_office_leads_along_the_open_paths(self):
        """Guarantee C7: step by step with some of its coins, exactly if the paid pairs of the path can be paid."""
        draw = random.Random(55)
        programs = {table: [deep_program(draw.sample(reference.questions(table), 3)) for _ in range(6)]
                    for table in (TABLE, WIDE)}
        programs[TABLE].append(PROGRAM)
        for table in (TABLE, WIDE):
            pairs = reference.pairs_of(table)
            for program in programs[table]:
                for _ in range(6):
                    struck, coins = drawn_scope(draw, pairs, 1), coins_of(*[drawn_scope(draw, pairs, 3) for _ in "abc"])
                    if is_safe(table, struck, coins):
                        led = {(): {(struck, coins, False)}}
                        self.lead(table, program, (), led)
                        for path in reference.walks(program):
                            self.assertIs(bool(led.get(path)), can_lead(table, struck, coins, program, path))

    def lead(self, table, program, path, led):
        """Write down which offices the steps can lead to, for each path that begins like this."""
        question = reference.walks(program)[path][1]
        if question is None:
            return
        for answer in ("yes", "no"):
            further = set()
            for office in led[path]:
                for size in range(len(office[1]) + 1):
                    for numbers in itertools.permutations(dict(office[1]), size):
                        found = answered(table, office, *question, answer, numbers)
                        if type(found) is tuple:
                            further.add(found[0])
            if further:
                led[(*path, answer)] = further
                self.lead(table, program, (*path, answer), led)

    def test_after_the_call(self):
        office, coins = be_called(OFFICE)
        self.assertEqual(coins, COINS)
        self.assertEqual(answers_open(TABLE, office, "room", ("big",)), ())
        office = hear(office, (SMALL,))
        self.assertEqual(answers_open(TABLE, office, "room", ("big",)), ("yes",))
        office, reports = answer_with(TABLE, office, "room", ("big",), "yes", ())
        self.assertTrue(same((office, reports), (((SMALL,), (), True), ())))
        self.assertEqual(answer_with(TABLE, office, "time", ("wed",), "no", ()), (((SMALL, WED), (), True), ()))

    def test_by_position_and_by_name(self):
        self.assertEqual(take(office=CALLED[:2] + (False,), coin=(0, ())), ((BIG,), ((0, ()),), False))
        self.assertEqual(give(office=OFFICE, number=1), give(OFFICE, 1))
        self.assertEqual(narrow(office=OFFICE, number=0, scope=()), narrow(OFFICE, 0, ()))
        self.assertEqual(hear(office=OFFICE, pairs=(BIG,)), hear(OFFICE, (BIG,)))
        self.assertEqual(be_called(office=OFFICE), be_called(OFFICE))
        self.assertEqual(answer_with(table=TABLE, office=OFFICE, item="time", chosen=("wed",), answer="yes",
                                     numbers=(1, 0)), answer_with(TABLE, OFFICE, "time", ("wed",), "yes", (1, 0)))
        self.assertEqual(answers_open(table=TABLE, office=OFFICE, item="room", chosen=("big",)), ("no",))

    def test_at_the_limits(self):
        draw = random.Random(2454)
        for table in (full_table(4, 5, 24), full_table(3, 5, 24), drawn_table(draw, 4, 5, 24)):
            pairs = reference.pairs_of(table)
            coins = coins_of(*[(*drawn_scope(draw, pairs, 3),) for _ in range(5)])
            office = ((), coins if is_safe(table, (), coins) else (), False)
            for item, chosen in reference.questions(table):
                expected = tuple(answer for answer in ("no", "yes") if reference.pays(office[1], [
                    pair for pair in reference.strikes(table, item, chosen, answer)]) and not reference.breaks(
                        table, (), reference.strikes(table, item, chosen, answer)))
                self.assertTrue(same(answers_open(table, office, item, chosen), expected))
        self.assertEqual(answers_open(COIN_TOSS, ((("a", "x"),), (), True), "a", ("x",)), ("no",))


if __name__ == "__main__":
    unittest.main()
