"""Points 13 and 14: the checker of answer papers."""

import itertools
import unittest

from chosenlast.answerchecker import lets_answer
from chosenlast.answerpapers import answer_paper
from chosenlast.errors import InvalidPaper, UnknownName, UnknownPair
from tests import reference
from tests.values import ANY_VALUES, COIN_TOSS, DIAGONAL, SMALL_TABLES, TABLE, WIDE, full_table, subsets

BIG, SMALL = ("room", "big"), ("room", "small")
MON, TUE, WED = ("time", "mon"), ("time", "tue"), ("time", "wed")


class AnswerCheckerTests(unittest.TestCase):

    def refused(self, word, at, *arguments):
        with self.assertRaises(InvalidPaper) as caught:
            lets_answer(*arguments)
        self.assertEqual((caught.exception.word, caught.exception.at), (word, at), arguments)
        self.assertIs(type(caught.exception.at), int)

    def test_example(self):
        self.refused("no", -1, TABLE, (), "room", ("big",), ("open", ("big", "mon"), ("big", "tue")))

    def test_accepted(self):
        self.assertEqual(lets_answer(TABLE, (), "room", ("big",), ("open", ("big", "mon"), ("small", "wed"))), "open")
        # More than one paper may be accepted.
        for row in (("small", "mon"), ("small", "wed")):
            paper = ("forced", "no", row, (None, BIG, None, None))
            self.assertEqual(lets_answer(TABLE, (BIG,), "time", ("tue",), paper), "no")
            paper = ("forced", "yes", row, (BIG, BIG, None, None))
            self.assertEqual(lets_answer(TABLE, (BIG,), "room", ("small",), paper), "yes")
        for reasons in itertools.product((BIG, MON), (BIG,), (SMALL, MON), (SMALL,)):
            self.assertEqual(lets_answer(TABLE, (BIG, SMALL, MON), "time", (), ("none", reasons)), "none")

    def test_papers_of_answer_paper_are_accepted(self):
        for table in (*SMALL_TABLES, WIDE):
            for struck in subsets(reference.pairs_of(table)):
                for item, chosen in reference.questions(table):
                    self.check_paper(table, struck, item, chosen)

    def test_at_the_limits_and_beyond(self):
        table = full_table(4, 5, 24)
        for struck in subsets(reference.pairs_of(table)[::4]):
            for item, chosen in reference.questions(table)[::3]:
                self.check_paper(table, struck, item, chosen)
        table = full_table(4, 8)
        for struck in ((), (("a", "p"),), tuple(("a", name) for name in "pqrstuv"), reference.pairs_of(table)[:8]):
            self.check_paper(table, tuple(struck), "a", ("p",))
            self.check_paper(table, tuple(struck), "d", ("p", "q", "w"))

    def check_paper(self, table, struck, item, chosen):
        paper = answer_paper(table, struck, item, chosen)
        self.assertEqual(lets_answer(table, struck, item, chosen, paper),
                         reference.state(table, struck, item, chosen))

    def test_shape(self):
        row, reasons = ("big", "mon"), (None,) * 4
        for thing in (("forced", "no", row), ("forced", "no", row, reasons, ()), ["forced", "no", row, reasons],
                      ("forced", "maybe", row, reasons), ("forced", True, row, reasons),
                      ("forced", "no", list(row), reasons), ("forced", "no", row, list(reasons)),
                      ("forced", "no", ("big", "Mon"), reasons), ("forced", "no", ("big", 0), reasons),
                      ("forced", "no", None, reasons), ("forced", "no", "bigmon", reasons),
                      ("forced", "no", row, (None, None, None, False)), ("forced", "no", row, (0, None)),
                      ("forced", "no", row, (list(BIG),)), ("forced", "no", row, (("room",),)),
                      ("forced", "no", row, (("room", "big", "mon"),)), ("forced", "no", row, (("room", ""),)),
                      ("forced", "no", row, None), ("Forced", "no", row, reasons), (True, "no", row, reasons),
                      ("open", row), ("open", row, row, row), ["open", row, row], ("open", list(row), row),
                      ("open", row, list(row)), ("open", row, None), ("open", (1,), row), ("open", row, ("",)),
                      ("open", row, row, reasons), ("none", None), ("none",), ("none", reasons, reasons),
                      ["none", reasons], ("none", list(reasons)), ("none", (True,)), ("none", (BIG, ("time", 1))),
                      ("none", BIG), ("yes", row, row), ("no", reasons), (), ("forced",), ("open",)):
            self.refused("shape", -1, TABLE, (BIG,), "time", ("tue",), thing)

    def test_any_value(self):
        row, reasons = ("big", "mon"), (None,) * 4
        for thing in ANY_VALUES:
            for paper in (thing, [thing], (thing,), (thing, reasons), (thing, row, row), (thing, "no", row, reasons),
                          ("forced", thing, row, reasons), ("forced", "no", thing, reasons),
                          ("forced", "no", row, thing), ("forced", "no", row, (None, thing)), ("open", thing, row),
                          ("open", row, thing), ("none", thing), ("none", (thing,))):
                expected = self.entry(TABLE, (BIG,), "time", ("tue",), paper)
                self.refused(*expected, TABLE, (BIG,), "time", ("tue",), paper)

    def test_forced_row(self):
        reasons = (None, BIG, None, None)
        for row in (("small", "tue"), (), ("small",), ("small", "mon", "mon"), ("year", "old"),
                    ("big", "mon"), ("big", "tue")):
            self.refused("row", -1, TABLE, (BIG,), "time", ("tue",), ("forced", "no", row, reasons))
        # The row is alive, but the answer in it is the other one.
        self.refused("row", -1, TABLE, (BIG,), "time", ("tue",), ("forced", "yes", ("small", "mon"), reasons))
        self.refused("row", -1, TABLE, (SMALL,), "time", ("tue",), ("forced", "no", ("big", "tue"), reasons))
        # No row is alive.
        self.refused("row", -1, TABLE, (BIG, SMALL), "time", ("tue",), ("forced", "no", ("small", "mon"), reasons))

    def test_forced_many_and_reason(self):
        def refused(word, at, reasons):
            self.refused(word, at, TABLE, (BIG,), "time", ("tue",), ("forced", "no", ("small", "mon"), reasons))

        refused("many", -1, ())
        refused("many", -1, (None, BIG, None))
        refused("many", -1, (None, BIG, None, None, None))
        # A pair where None is asked, and None where a pair is asked.
        refused("reason", 0, (BIG, BIG, None, None))
        refused("reason", 3, (None, BIG, None, BIG))
        refused("reason", 1, (None, None, None, None))
        # A pair of the row that is not struck, a struck pair of another row, and no pair of the table.
        refused("reason", 1, (None, TUE, None, None))
        refused("reason", 1, (None, SMALL, None, None))
        refused("reason", 1, (None, ("year", "old"), None, None))
        refused("reason", 1, (None, TUE, BIG, None))

    def test_open(self):
        yes, no = ("big", "tue"), ("small", "mon")
        question = (TABLE, (WED,), "time", ("tue", "wed"))
        self.assertEqual(lets_answer(*question, ("open", yes, no)), "open")
        for row in (no, ("small", "wed"), ("small", "tue"), (), ("big",), ("big", "tue", "tue")):
            self.refused("yes", -1, *question, ("open", row, no))
            self.refused("yes", -1, *question, ("open", row, yes))
        for row in (yes, ("small", "wed"), ("big", "wed"), (), ("mon", "small")):
            self.refused("no", -1, *question, ("open", yes, row))

    def test_none(self):
        question = (TABLE, (BIG, SMALL), "time", ("tue", "wed"))
        self.assertEqual(lets_answer(*question, ("none", (BIG, BIG, SMALL, SMALL))), "none")
        self.refused("many", -1, *question, ("none", (BIG, BIG, SMALL)))
        self.refused("many", -1, *question, ("none", ()))
        self.refused("many", -1, *question, ("none", (None,) * 5))
        self.refused("reason", 0, *question, ("none", (None, BIG, None, None)))
        self.refused("reason", 1, *question, ("none", (BIG, SMALL, SMALL, SMALL)))
        self.refused("reason", 2, *question, ("none", (BIG, BIG, MON, SMALL)))
        self.refused("reason", 3, *question, ("none", (BIG, BIG, SMALL, ("room", "mon"))))
        # Rows that are alive have no reason.
        self.refused("reason", 2, TABLE, (BIG,), "time", (), ("none", (BIG, BIG, MON, SMALL)))

    def test_several_faults(self):
        question = (TABLE, (BIG,), "time", ("tue",))
        self.refused("shape", -1, *question, ("forced", "no", ("big", "mon"), (0,)))
        self.refused("row", -1, *question, ("forced", "no", ("big", "mon"), (BIG,)))
        self.refused("many", -1, *question, ("forced", "no", ("small", "mon"), (BIG,)))
        self.refused("reason", 0, *question, ("forced", "no", ("small", "mon"), (BIG, None, BIG, BIG)))
        self.refused("yes", -1, *question, ("open", (), ()))
        self.refused("many", -1, *question, ("none", (None, None)))

    def test_errors_of_the_question_come_first(self):
        bad = ("room", "mon")
        for thing in (None, ("none", ()), ("open", ("big", "tue"), ("big", "mon"))):
            for arguments, error, kept in (
                    ((TABLE, (bad,), "year", ("old",), thing), UnknownName, "year"),
                    ((TABLE, (bad,), "time", ("mon", "old", "xyz"), thing), UnknownName, "old"),
                    ((TABLE, (BIG, bad), "time", ("mon",), thing), UnknownPair, bad)):
                with self.assertRaises(error) as caught:
                    lets_answer(*arguments)
                self.assertIs(caught.exception.name if error is UnknownName else caught.exception.pair, kept)

    def test_all_small_papers(self):
        for table, names in ((COIN_TOSS, ("x", "y", "z")), (DIAGONAL, None)):
            rows = [(name,) for name in names] + [(), ("x", "y")] if names else [*table[1], ("p", "r")]
            pairs = [None, *reference.pairs_of(table)[:3], ("b", "x")]
            sizes = range(4) if names else (3,)
            reasons = [some for size in sizes for some in itertools.product(pairs, repeat=size)]
            papers = [("forced", word, row, some) for word in ("yes", "no") for row in rows for some in reasons]
            papers += [("open", *two) for two in itertools.product(rows, repeat=2)] + [("none", r) for r in reasons]
            for struck in subsets(reference.pairs_of(table)[:4]):
                for item, chosen in reference.questions(table)[1:3]:
                    for paper in papers:
                        self.check_small_paper(table, struck, item, chosen, paper)

    def check_small_paper(self, table, struck, item, chosen, paper):
        expected = self.entry(table, struck, item, chosen, paper)
        accepted = expected is None
        self.assertEqual(accepted, reference.accepts_answer(table, struck, item, chosen, paper), paper)
        if accepted:
            # What the checker accepts is true.
            self.assertEqual(lets_answer(table, struck, item, chosen, paper),
                             reference.state(table, struck, item, chosen))
        else:
            self.refused(*expected, table, struck, item, chosen, paper)

    def entry(self, table, struck, item, chosen, thing):
        """Return the first entry of point 14 that holds, or None."""
        def is_names(row):
            return type(row) is tuple and all(type(n) is str and n.isalpha() and n == n.lower() and len(n) < 9
                                              for n in row)

        def is_reasons(some):
            return type(some) is tuple and all(r is None or is_names(r) and len(r) == 2 for r in some)

        def is_not(row, word):
            return row not in reference.alive(table, struck) or reference.answer(table, row, item, chosen) != word

        if type(thing) is not tuple or not thing:
            return ("shape", -1)
        word, *rest = thing
        if word == "open" and len(rest) == 2 and all(map(is_names, rest)):
            return ("yes", -1) if is_not(rest[0], "yes") else ("no", -1) if is_not(rest[1], "no") else None
        forced = word == "forced" and len(rest) == 3 and rest[0] in ("yes", "no") and is_names(rest[1])
        if not (forced or word == "none" and len(rest) == 1) or not is_reasons(rest[-1]):
            return ("shape", -1)
        if forced and is_not(rest[1], rest[0]):
            return ("row", -1)
        if len(rest[-1]) != len(table[1]):
            return ("many", -1)
        for k, (row, reason) in enumerate(zip(table[1], rest[-1])):
            free = forced and reference.answer(table, row, item, chosen) == rest[0]
            good = reason is None if free else reason in set(struck) & set(zip(table[0], row))
            if not good:
                return ("reason", k)
        return None


if __name__ == "__main__":
    unittest.main()
