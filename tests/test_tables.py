"""Point 3: what a table contains."""

import unittest

from chosenlast.errors import UnknownName
from chosenlast.tables import candidates_of, pairs_in, pairs_of
from tests import reference
from tests.values import COIN_TOSS, SMALL_TABLES, TABLE, WIDE, full_table

TABLES = (*SMALL_TABLES, WIDE, full_table(4, 5, 24), full_table(5, 3, 40))


class TableTests(unittest.TestCase):

    def test_examples(self):
        self.assertEqual(candidates_of(TABLE, "time"), ("mon", "tue", "wed"))
        self.assertEqual(pairs_in(TABLE, ("small", "wed")), (("room", "small"), ("time", "wed")))

    def test_pairs(self):
        self.assertEqual(pairs_of(TABLE), (("room", "big"), ("room", "small"), ("time", "mon"), ("time", "tue"),
                                           ("time", "wed")))
        self.assertEqual(pairs_of(COIN_TOSS), (("a", "x"), ("a", "y")))
        for table in TABLES:
            self.assertEqual(pairs_of(table), tuple(reference.pairs_of(table)))
            self.assertIs(type(pairs_of(table)), tuple)
            self.assertEqual({type(pair) for pair in pairs_of(table)}, {tuple})

    def test_pairs_of_rows(self):
        for table in TABLES:
            for row in table[1]:
                pairs = pairs_in(table, row)
                self.assertEqual(pairs, tuple(sorted(zip(table[0], row))))
                self.assertIs(type(pairs), tuple)

    def test_candidates(self):
        self.assertEqual(candidates_of(WIDE, "abcdefgh"), ("a", "b", "c"))
        for table in TABLES:
            found = tuple((item, name) for item in table[0] for name in candidates_of(table, item))
            self.assertEqual(found, pairs_of(table))

    def test_candidates_ascend_though_the_rows_do_not_show_them_so(self):
        table = (("a", "b"), (("x", "z"), ("y", "a"), ("z", "m")))
        self.assertEqual(candidates_of(table, "b"), ("a", "m", "z"))

    def test_unknown_item(self):
        for item in ("big", "rooms", "a", "roo"):
            with self.assertRaises(UnknownName) as caught:
                candidates_of(TABLE, item)
            self.assertIs(caught.exception.name, item)


if __name__ == "__main__":
    unittest.main()
