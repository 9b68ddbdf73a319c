"""Points 3 and 9: rows that are alive, pairs that are dead, pairs that break the table."""

import unittest

from chosenlast.errors import UnknownPair
from chosenlast.striking import alive_rows, dead_pairs, does_break
from tests import reference
from tests.values import SMALL_TABLES, TABLE, WIDE, full_table, subsets

ALL_PAIRS = tuple(reference.pairs_of(TABLE))


class StrikingTests(unittest.TestCase):

    def test_example(self):
        self.assertEqual(dead_pairs(TABLE, (("time", "mon"), ("time", "tue"))),
                         (("room", "big"), ("time", "mon"), ("time", "tue")))

    def test_example_table(self):
        self.assertEqual(alive_rows(TABLE, ()), TABLE[1])
        rooms = (("room", "big"), ("room", "small"))
        times = (("time", "mon"), ("time", "tue"), ("time", "wed"))
        self.assertIs(does_break(TABLE, (), rooms), True)
        self.assertIs(does_break(TABLE, (), times), True)
        for pairs in (rooms[:1], rooms[1:], times[:2], times[1:], ()):
            self.assertIs(does_break(TABLE, (), pairs), False)

    def test_none_some_and_all_struck(self):
        self.assertEqual(dead_pairs(TABLE, ()), ())
        self.assertEqual(alive_rows(TABLE, (("room", "big"),)), (("small", "mon"), ("small", "wed")))
        self.assertEqual(dead_pairs(TABLE, (("room", "big"),)), (("room", "big"), ("time", "tue")))
        self.assertEqual(alive_rows(TABLE, ALL_PAIRS), ())
        self.assertEqual(dead_pairs(TABLE, ALL_PAIRS), ALL_PAIRS)
        self.assertIs(does_break(TABLE, ALL_PAIRS, ()), True)
        self.assertIs(does_break(TABLE, ALL_PAIRS, ALL_PAIRS), True)

    def test_all_struck_pairs(self):
        for table in SMALL_TABLES:
            pairs = reference.pairs_of(table)
            for struck in subsets(pairs):
                self.assertEqual(alive_rows(table, struck), reference.alive(table, struck))
                self.assertEqual(dead_pairs(table, struck), reference.dead(table, struck))
                for more in subsets(pairs):
                    self.assertIs(does_break(table, struck, more), reference.alive(table, struck + more) == ())

    def test_kinds(self):
        for struck in subsets(ALL_PAIRS):
            for result in (alive_rows(TABLE, struck), dead_pairs(TABLE, struck)):
                self.assertIs(type(result), tuple)
                self.assertLessEqual({type(element) for element in result}, {tuple})

    def test_at_the_limits(self):
        table = full_table(4, 5, 24)
        for struck in subsets(reference.pairs_of(table)[::3]):
            self.assertEqual(alive_rows(table, struck), reference.alive(table, struck))
            self.assertEqual(dead_pairs(table, struck), reference.dead(table, struck))

    def test_striking_one_pair_kills_no_other_pair_of_the_item(self):
        for table in (*SMALL_TABLES, WIDE):
            for struck in subsets(reference.pairs_of(table)):
                dead = dead_pairs(table, struck)
                for pair in reference.pairs_of(table):
                    further = dead_pairs(table, tuple(sorted({*struck, pair})))
                    self.assertEqual([p for p in further if p[0] == pair[0] and p != pair],
                                     [p for p in dead if p[0] == pair[0] and p != pair])

    def refused(self, pair, function, *arguments):
        with self.assertRaises(UnknownPair) as caught:
            function(*arguments)
        self.assertIs(caught.exception.pair, pair)

    def test_unknown_pairs(self):
        known, first, second = ("time", "mon"), ("room", "wed"), ("year", "mon")
        self.refused(first, alive_rows, TABLE, (first,))
        self.refused(first, alive_rows, TABLE, (first, known, second))
        self.refused(second, dead_pairs, TABLE, (known, second))
        self.refused(first, dead_pairs, TABLE, (first, known))
        # First those of struck, then those of pairs.
        self.refused(second, does_break, TABLE, (known, second), (first,))
        self.refused(first, does_break, TABLE, (known,), (first, second))
        self.refused(first, does_break, TABLE, ALL_PAIRS, (first,))


if __name__ == "__main__":
    unittest.main()
