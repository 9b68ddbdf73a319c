"""Point 11: the checker of tables."""

import itertools
import unittest

from chosenlast.errors import InvalidPaper
from chosenlast.tablechecker import lets_table
from tests.values import ANY_VALUES, COIN_TOSS, SQUARE, TABLE, WIDE, full_table


class TableCheckerTests(unittest.TestCase):

    def refused(self, thing, word, at):
        with self.assertRaises(InvalidPaper) as caught:
            lets_table(thing)
        self.assertEqual((caught.exception.word, caught.exception.at), (word, at), thing)
        self.assertIs(type(caught.exception.at), int)

    def test_example(self):
        self.refused((("a", "b"), (("x", "y"), ("x",))), "row", 1)
        self.assertEqual(lets_table(TABLE), 4)

    def test_tables(self):
        for table, rows in ((COIN_TOSS, 2), (SQUARE, 4), (WIDE, 5), (full_table(4, 5, 24), 24)):
            self.assertEqual(lets_table(table), rows)
            self.assertIs(type(lets_table(thing=table)), int)

    def test_larger_than_the_limits(self):
        self.assertEqual(lets_table(full_table(4, 8)), 4096)
        self.assertEqual(lets_table(full_table(8, 3)), 6561)
        items, rows = full_table(4, 8)
        self.refused((items, rows + rows[-1:]), "rise", 4096)
        self.refused((items, rows[:3000] + (("p",),) + rows[3000:]), "row", 3000)

    def test_shape(self):
        row = ("x", "y")
        for thing in ((), (("a",),), (("a",), (("x",), ("y",)), ()), [("a",), (("x",), ("y",))],
                      (["a"], (("x",), ("y",))), (("a",), [("x",), ("y",)]), (("a",), (("x",), ["y"])),
                      (("a",), (("x",), ("Y",))), (("A",), (("x",), ("y",))), ((1,), (("x",), ("y",))),
                      (("a",), (("x",), (None,))), (("a",), (("x",), (True,))), (("a",), ("x", "y")),
                      (("a\n",), (("x",), ("y",))), (("a",), (("x",), ("y\n",))), (("",), (("x",), ("y",))),
                      (("a",), (("abcdefghi",), ("y",))), (("abcdefghi",), (("x",), ("y",))),
                      ("a", (("x",), ("y",))), (("a", "b"), row), (("a",), None), (None, (("x",), ("y",))),
                      (("a",), (("x",), (("y",),))), ((("a",),), (("x",), ("y",)))):
            self.refused(thing, "shape", -1)

    def test_any_value(self):
        for thing in ANY_VALUES:
            if thing == (("a",), (("x",), ("y",))):
                self.assertEqual(lets_table(thing), 2)
            else:
                self.refused(thing, "rows" if thing == (("a",), ()) else "shape", -1)
            self.refused([thing], "shape", -1)
            self.refused((thing,), "shape", -1)
            self.refused((thing, thing, thing), "shape", -1)
            self.refused((("b", "a"), (("x", thing, 0),)), "shape", -1)

    def test_shape_comes_before_all_else(self):
        self.refused(((), (("x",), ("Y",))), "shape", -1)
        self.refused((("b", "a"), (("x",), (0,))), "shape", -1)
        self.refused((("b", "a"), []), "shape", -1)

    def test_items(self):
        rows = (("x", "x"), ("y", "y"))
        for items in ((), ("b", "a"), ("a", "a"), ("a", "b", "a"), ("a", "b", "b")):
            self.refused((items, rows), "items", -1)
            self.refused((items, ()), "items", -1)
            self.refused((items, (("x",), ("x",))), "items", -1)

    def test_rows(self):
        self.refused((("a",), ()), "rows", -1)
        self.refused((("a", "b"), ()), "rows", -1)

    def test_row_and_rise(self):
        items = ("a", "b")
        self.refused((items, ((), ("x", "x"))), "row", 0)
        self.refused((items, (("x", "x", "x"), ("y", "y"))), "row", 0)
        self.refused((items, (("x", "x"), ("y", "y"), ("y", "y"))), "rise", 2)
        self.refused((items, (("x", "y"), ("x", "x"), ("y", "z"))), "rise", 1)
        self.refused((items, (("y", "x"), ("x", "y"))), "rise", 1)
        # Row by row: what is wrong with an earlier row comes first.
        self.refused((items, (("y", "y"), ("x", "x"), ("z",))), "rise", 1)
        self.refused((items, (("y", "y"), ("x",), ("x", "x"))), "row", 1)
        # Of one row, its length comes first.
        self.refused((items, (("y", "y"), ("x",))), "row", 1)
        self.refused((items, (("y", "y"), ("x", "x", "x"))), "row", 1)

    def test_one(self):
        self.refused((("a",), (("x",),)), "one", 0)
        self.refused((("a", "b"), (("x", "x"), ("x", "y"))), "one", 0)
        self.refused((("a", "b"), (("x", "x"), ("y", "x"))), "one", 1)
        self.refused((("a", "b", "c"), (("x", "x", "y"), ("y", "x", "y"))), "one", 1)
        # After all rows.
        self.refused((("a", "b"), (("x", "x"), ("x", "x"))), "rise", 1)
        self.refused((("a", "b"), (("x", "x"), ("x", "y"), ("x",))), "row", 2)

    def test_all_small_values(self):
        rows = [(), ("x",), ("y",), ("x", "x"), ("x", "y"), ("y", "x")]
        for items in ((), ("a",), ("a", "b"), ("b", "a"), ("a", "a")):
            for size in range(4):
                for chosen in itertools.product(rows, repeat=size):
                    expected = self.entry(items, chosen)
                    if expected is None:
                        self.assertEqual(lets_table((items, chosen)), size)
                    else:
                        self.refused((items, chosen), *expected)

    def entry(self, items, rows):
        """Return the first entry of point 11 that holds for names in such tuples, or None."""
        if list(items) != sorted(set(items)) or not items:
            return ("items", -1)
        if not rows:
            return ("rows", -1)
        for k, row in enumerate(rows):
            if len(row) != len(items):
                return ("row", k)
            if k and row <= rows[k - 1]:
                return ("rise", k)
        for i, column in enumerate(zip(*rows)):
            if len(set(column)) == 1:
                return ("one", i)
        return None


if __name__ == "__main__":
    unittest.main()
