"""Points 56 and 57: records, record papers and their checker."""

import itertools
import random
import unittest

from chosenlast.errors import InvalidPaper, UnknownName
from chosenlast.recordchecker import lets_record
from chosenlast.recordpapers import record_paper
from chosenlast.records import true_rows
from tests import entries, reference
from tests.values import (
    ANY_VALUES, COIN_TOSS, SMALL_TABLES, TABLE, WIDE, checked, copied, drawn_table, full_table, nested, same, variants)

NO_BIG, TUE_YES = ("room", ("big",), "no"), ("time", ("tue",), "yes")
# False of each row; true of one row.
NEVER = (NO_BIG, TUE_YES)
ONCE = (NO_BIG, ("time", ("mon", "tue"), "no"))


def expected_rows(table, record):
    return tuple(row for row in table[1] if all(
        reference.answer(table, row, item, chosen) == word for item, chosen, word in record))


def triples_of(table):
    return [(*asked, word) for asked in reference.questions(table) for word in ("yes", "no")]


class RecordTests(unittest.TestCase):

    def check(self, table, record):
        kept = copied(record)
        rows = true_rows(table, record)
        self.assertTrue(same(rows, expected_rows(table, record)))
        paper = record_paper(table, record)
        self.assertTrue(same(record, kept))
        self.assertEqual((type(paper), paper[0]), (tuple, "true" if rows else "false"))
        self.assertIsNone(entries.record(table, record, paper))
        self.assertEqual(lets_record(table, record, paper), paper[0])

    def test_examples(self):
        self.assertEqual(true_rows(TABLE, (NO_BIG,)), (("small", "mon"), ("small", "wed")))
        self.assertEqual(lets_record(TABLE, NEVER, ("false", (0, 0, 1, 1))), "false")

    def test_no_answers(self):
        for table in (*SMALL_TABLES, WIDE):
            self.assertTrue(same(true_rows(table, ()), table[1]))
            self.check(table, ())

    def test_duplicates(self):
        for triple in triples_of(TABLE):
            self.assertEqual(true_rows(TABLE, (triple,)), true_rows(TABLE, (triple,) * 3))
            self.check(TABLE, (triple,) * 3)
        self.assertEqual(true_rows(TABLE, (NO_BIG, NO_BIG, TUE_YES, NO_BIG)), ())
        self.check(TABLE, (NO_BIG, NO_BIG, TUE_YES, NO_BIG))

    def test_no_row(self):
        for record in (NEVER, (("room", (), "yes"),), (("room", ("big", "small"), "no"),),
                       (("time", ("mon",), "yes"), ("time", ("mon",), "no")), (("time", ("wed",), "yes"), TUE_YES)):
            self.assertTrue(same(true_rows(TABLE, record), ()))
            self.assertEqual(record_paper(TABLE, record)[0], "false")
            self.check(TABLE, record)

    def test_all_records_of_two_answers(self):
        for table in (TABLE, COIN_TOSS):
            for record in itertools.product(triples_of(table), repeat=2):
                self.check(table, record)

    def test_drawn_records(self):
        draw = random.Random(56)
        for k in range(200):
            table = (*SMALL_TABLES, WIDE, drawn_table(draw, 3, 3, 6))[k % 6]
            self.check(table, tuple(draw.choice(triples_of(table)) for _ in range(draw.randint(0, 6))))

    def test_records_of_no_row_in_other_ways(self):
        """The order of the answers does not matter to the rows."""
        for record in itertools.permutations((*ONCE, ("time", ("wed",), "yes"))):
            self.assertEqual(true_rows(TABLE, record), (("small", "wed"),))
            self.assertEqual(record_paper(TABLE, record), ("true", ("small", "wed")))

    def test_unknown_names(self):
        """In the order of the triples, the item of each before its candidates, before all else."""
        for record, name in (((("year", (), "yes"),), "year"),
                             ((("year", ("old",), "no"), ("room", ("mon",), "no")), "year"),
                             ((NO_BIG, ("room", ("big", "mon", "old"), "no"), ("year", (), "no")), "mon"),
                             ((NO_BIG, TUE_YES, ("time", ("big", "mon"), "yes")), "big"),
                             ((("room", ("mon",), "yes"), ("year", (), "yes")), "mon"),
                             (NEVER + (("big", (), "yes"),), "big")):
            calls = [(true_rows, (TABLE, record)), (record_paper, (TABLE, record))]
            calls += [(lets_record, (TABLE, record, thing)) for thing in (None, (), ("true", ()), ("false", (0,) * 4))]
            for function, arguments in calls:
                with self.assertRaises(UnknownName) as caught:
                    function(*arguments)
                self.assertEqual(caught.exception.name, name)

    def test_by_position_and_by_name(self):
        paper = record_paper(table=TABLE, record=NEVER)
        self.assertEqual(paper, record_paper(TABLE, NEVER))
        self.assertEqual(true_rows(table=TABLE, record=ONCE), (("small", "wed"),))
        self.assertEqual(lets_record(table=TABLE, record=NEVER, thing=paper), "false")

    def test_at_the_limits(self):
        draw = random.Random(2456)
        for table in (full_table(4, 5, 24), drawn_table(draw, 4, 5, 24), full_table(4, 2)):
            for size in (1, 2, 3, 6, 36):
                self.check(table, tuple(draw.choice(triples_of(table)) for _ in range(size)))


class RecordCheckerTests(unittest.TestCase):

    def refused(self, word, at, record, thing):
        kept = copied(thing)
        with self.assertRaises(InvalidPaper) as caught:
            lets_record(TABLE, record, thing)
        self.assertTrue(same((caught.exception.word, caught.exception.at), (word, at)), (thing, vars(caught.exception)))
        self.assertTrue(same(thing, kept))

    def agrees(self, record, thing, table=TABLE):
        found, expected = checked(lets_record, table, record, thing), entries.record(table, record, thing)
        self.assertTrue(same(found, thing[0] if expected is None else expected), (record, thing, found, expected))

    def test_shape(self):
        for thing in (("true",), ("true", ("big", "mon"), ()), ["true", ("big", "mon")], ("True", ("big", "mon")),
                      ("true", ["big", "mon"]), ("true", ("Big", "mon")), ("true", ("big", 1)), ("true", "big"),
                      ("true", (0, 0, 0, 0)), (True, ("big", "mon")), ("false",), ("false", (0,) * 4, ()),
                      ["false", (0,) * 4], ("false", [0] * 4), ("false", (0, 0, 0, False)), ("false", (0, 0, 0, -1)),
                      ("false", (0, 0, 0, None)), ("false", ("big", "mon")), ("false", 0), (False, (0,) * 4),
                      ("few", ()), ((), ())):
            for record in ((), NEVER, ONCE):
                self.refused("shape", -1, record, thing)

    def test_any_value(self):
        for thing in (*ANY_VALUES, nested(tuple, 30)):
            for paper in (thing, ("true", thing), ("false", thing), (thing, ("big", "mon")), (thing, (0,) * 4),
                          ("true", ("big", thing)), ("false", (0, 0, 1, thing))):
                self.agrees(NEVER, paper)
                self.agrees((), paper)

    def test_row_and_entry(self):
        for row in ((), ("big",), ("big", "wed"), ("mon", "big"), ("big", "mon", "mon"), ("a", "b")):
            self.refused("row", -1, NEVER, ("true", row))
            self.refused("row", -1, (), ("true", row))
        record = (("time", ("wed",), "no"), NO_BIG, TUE_YES, NO_BIG)
        for row, k in ((("small", "wed"), 0), (("big", "mon"), 1), (("big", "tue"), 1), (("small", "mon"), 2)):
            self.refused("entry", k, record, ("true", row))
        self.assertEqual(lets_record(TABLE, (NO_BIG,), ("true", ("small", "mon"))), "true")
        for row in TABLE[1]:
            self.assertEqual(lets_record(TABLE, (), ("true", row)), "true")

    def test_many_and_index(self):
        for indices in ((), (0,), (0, 0, 1), (0, 0, 1, 1, 1)):
            self.refused("many", -1, NEVER, ("false", indices))
        for indices, k in (((1, 1, 1, 1), 1), ((0, 0, 0, 1), 2), ((0, 0, 1, 0), 3), ((2, 0, 1, 1), 0),
                           ((0, 0, 9, 9), 2),
                           ((0, 0, 1, 10 ** 59), 3)):
            self.refused("index", k, NEVER, ("false", indices))
        for indices in ((0, 0, 1, 1), (1, 0, 1, 1)):
            self.assertEqual(lets_record(TABLE, NEVER, ("false", indices)), "false")
        self.refused("index", 0, (), ("false", (0,) * 4))
        self.refused("index", 3, ONCE, ("false", (0, 0, 1, 0)))

    def test_only_one_word_is_accepted(self):
        triples = triples_of(COIN_TOSS)
        papers = [("true", (name,)) for name in ("x", "y", "z")]
        papers += [("false", indices) for size in range(4) for indices in itertools.product(range(3), repeat=size)]
        for size in range(3):
            for record in itertools.product(triples, repeat=size):
                found = {paper[0] for paper in papers if checked(lets_record, COIN_TOSS, record, paper) == paper[0]}
                self.assertEqual(found, {"true" if expected_rows(COIN_TOSS, record) else "false"})

    def test_changed_papers(self):
        for record in ((), NEVER, ONCE, (NO_BIG,), (*NEVER, *NEVER)):
            paper = record_paper(TABLE, record)
            self.agrees(record, paper)
            for thing in variants(paper):
                self.agrees(record, thing)
                if type(thing) is tuple:
                    for worse in list(variants(thing))[::7]:
                        self.agrees(record, worse)


if __name__ == "__main__":
    unittest.main()
