"""Points 4, 9 and 12: answers, what they strike and cost, and the state of a question."""

import unittest

from chosenlast.errors import UnknownName, UnknownPair
from chosenlast.questions import answer_in, forced_answer, paid_by, struck_by
from tests import reference
from tests.values import COIN_TOSS, SMALL_TABLES, TABLE, full_table, subsets

BIG, SMALL = ("room", "big"), ("room", "small")
MON, TUE, WED = ("time", "mon"), ("time", "tue"), ("time", "wed")


class QuestionTests(unittest.TestCase):

    def test_examples(self):
        self.assertEqual(struck_by(TABLE, "time", ("mon",), "yes"), (TUE, WED))
        self.assertEqual(paid_by(TABLE, (SMALL,), "time", ("mon",), "yes"), (TUE,))
        self.assertEqual(forced_answer(TABLE, (BIG,), "time", ("tue",)), "no")

    def test_answers(self):
        self.assertEqual(answer_in(TABLE, ("big", "tue"), "time", ("mon", "tue")), "yes")
        self.assertEqual(answer_in(TABLE, ("big", "tue"), "time", ("mon", "wed")), "no")
        self.assertEqual(answer_in(TABLE, ("big", "tue"), "room", ("big",)), "yes")

    def test_strikes(self):
        self.assertEqual(struck_by(TABLE, "time", ("mon",), "no"), (MON,))
        self.assertEqual(struck_by(TABLE, "time", ("mon", "wed"), "no"), (MON, WED))
        self.assertEqual(struck_by(TABLE, "room", ("big",), "yes"), (SMALL,))

    def test_none_and_all_chosen(self):
        everything = ("mon", "tue", "wed")
        self.assertEqual(struck_by(TABLE, "time", (), "yes"), (MON, TUE, WED))
        self.assertEqual(struck_by(TABLE, "time", (), "no"), ())
        self.assertEqual(struck_by(TABLE, "time", everything, "yes"), ())
        self.assertEqual(struck_by(TABLE, "time", everything, "no"), (MON, TUE, WED))
        self.assertEqual(forced_answer(TABLE, (), "time", ()), "no")
        self.assertEqual(forced_answer(TABLE, (), "time", everything), "yes")
        self.assertEqual(paid_by(TABLE, (), "time", (), "no"), ())
        self.assertEqual(paid_by(TABLE, (), "time", everything, "yes"), ())
        for row in TABLE[1]:
            self.assertEqual(answer_in(TABLE, row, "time", ()), "no")
            self.assertEqual(answer_in(TABLE, row, "time", everything), "yes")

    def test_no_row_alive(self):
        for item, chosen in reference.questions(TABLE):
            self.assertEqual(forced_answer(TABLE, (BIG, SMALL), item, chosen), "none")
            for answer in ("yes", "no"):
                self.assertEqual(paid_by(TABLE, (MON, TUE, WED), item, chosen, answer), ())

    def test_paid_pairs_are_not_dead_ones(self):
        self.assertEqual(paid_by(TABLE, (), "time", ("mon",), "yes"), (TUE, WED))
        # Neither the struck TUE nor the dead WED has to be paid.
        self.assertEqual(paid_by(TABLE, (SMALL, TUE), "time", ("mon",), "yes"), ())
        self.assertEqual(forced_answer(TABLE, (SMALL, TUE), "time", ("mon",)), "yes")
        self.assertEqual(paid_by(TABLE, (SMALL, TUE), "time", ("mon",), "no"), (MON,))

    def test_all_questions(self):
        for table in SMALL_TABLES:
            for item, chosen in reference.questions(table):
                for row in table[1]:
                    self.assertEqual(answer_in(table, row, item, chosen), reference.answer(table, row, item, chosen))
                for answer in ("yes", "no"):
                    self.assertEqual(struck_by(table, item, chosen, answer),
                                     reference.strikes(table, item, chosen, answer))

    def test_all_states(self):
        for table in SMALL_TABLES:
            for struck in subsets(reference.pairs_of(table)):
                self.check_states(table, struck)

    def test_at_the_limits(self):
        table = full_table(4, 5, 24)
        for struck in subsets(reference.pairs_of(table)[1::4]):
            self.check_states(table, struck)

    def check_states(self, table, struck):
        dead = reference.dead(table, struck)
        for item, chosen in reference.questions(table):
            state = forced_answer(table, struck, item, chosen)
            self.assertEqual(state, reference.state(table, struck, item, chosen))
            for answer in ("yes", "no"):
                paid = paid_by(table, struck, item, chosen, answer)
                strikes = reference.strikes(table, item, chosen, answer)
                self.assertEqual(paid, tuple(pair for pair in strikes if pair not in dead))
                self.assertIs(type(paid), tuple)
                self.assertEqual(paid == (), state in ("none", answer))

    def refused(self, error, kept, function, *arguments):
        with self.assertRaises(error) as caught:
            function(*arguments)
        self.assertIs(caught.exception.name if error is UnknownName else caught.exception.pair, kept)

    def test_unknown_names(self):
        row = ("big", "mon")
        for item, chosen, name in (("year", ("tue",), "year"), ("year", ("old",), "year"), ("time", ("big",), "big"),
                                   ("time", ("abc", "mon", "xyz"), "abc"), ("time", ("mon", "xyz"), "xyz"),
                                   ("room", ("room",), "room"), ("big", (), "big"), ("room", ("big", "mon"), "mon")):
            self.refused(UnknownName, name, answer_in, TABLE, row, item, chosen)
            self.refused(UnknownName, name, struck_by, TABLE, item, chosen, "yes")
            self.refused(UnknownName, name, struck_by, TABLE, item, chosen, "no")
            for struck in ((), (("no", "pair"),), (BIG, SMALL)):
                self.refused(UnknownName, name, paid_by, TABLE, struck, item, chosen, "no")
                self.refused(UnknownName, name, forced_answer, TABLE, struck, item, chosen)

    def test_unknown_pairs(self):
        bad, worse = ("room", "mon"), ("year", "old")
        for struck, pair in (((bad,), bad), ((BIG, bad, worse), bad), ((MON, worse), worse)):
            for chosen in ((), ("big",), ("big", "small")):
                self.refused(UnknownPair, pair, paid_by, TABLE, struck, "room", chosen, "yes")
                self.refused(UnknownPair, pair, forced_answer, TABLE, struck, "room", chosen)

    def test_two_candidates(self):
        self.assertEqual(forced_answer(COIN_TOSS, (), "a", ("x",)), "open")
        self.assertEqual(forced_answer(COIN_TOSS, (("a", "y"),), "a", ("x",)), "yes")
        self.assertEqual(forced_answer(COIN_TOSS, (("a", "x"),), "a", ("x",)), "no")
        self.assertEqual(forced_answer(COIN_TOSS, (("a", "x"), ("a", "y")), "a", ("x",)), "none")


if __name__ == "__main__":
    unittest.main()
