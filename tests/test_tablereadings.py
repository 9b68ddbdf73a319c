"""Points 15 to 19: reading the written forms."""

import itertools
import re
import unittest

from chosenlast.errors import InvalidText
from chosenlast.kinds import is_coin, is_scope
from chosenlast.tablechecker import lets_table
from chosenlast.tablereadings import read_coin, read_scope, read_table
from chosenlast.tabletexts import coin_text, scope_text, table_text
from tests import reference
from tests.values import COINS, SMALL_TABLES, TABLE, WIDE, full_table, same, subsets

TEXT = "items room,time\nrow big,mon\nrow big,tue\nrow small,mon\nrow small,wed"


def outcome(function, text):
    """Return what is read, or the line and the field of the error."""
    try:
        return ("read", function(text))
    except InvalidText as error:
        return ("invalid", error.line, error.field)


def is_name(text):
    return re.fullmatch("[a-z]{1,8}", text) is not None


def expected_scope(text, first=0):
    """Read a scope in another way: find the first field that is not in the list of all good ones."""
    if text == "-":
        return ("read", ())
    pairs = []
    for k, field in enumerate(text.split(",")):
        match = re.fullmatch("([a-z]{1,8}):([a-z]{1,8})", field)
        if match is None or match.groups() <= max(pairs, default=()):
            return ("invalid", 0, first + k)
        pairs.append(match.groups())
    return ("read", tuple(pairs))


def expected_coin(text):
    number = re.match("(0|[1-9][0-9]{0,59})(=|\\Z)", text)
    if number is None:
        return ("invalid", 0, 0)
    if number.group(2) == "":
        return ("invalid", 0, 1)
    scope = expected_scope(text[number.end():], 1)
    return ("read", (int(number.group(1)), scope[1])) if scope[0] == "read" else scope


def expected_table(text):
    lines = [[line.split(" ", 1)[0], *(part for rest in line.split(" ", 1)[1:] for part in rest.split(","))]
             for line in text.split("\n")]
    items = lines[0][1:]
    for at, (word, *names) in enumerate(lines):
        if word != ("row" if at else "items"):
            return ("invalid", at, 0)
        for k, name in enumerate(names):
            wrong = not is_name(name)
            if at == 0:
                wrong = wrong or k > 0 and name <= names[k - 1]
            else:
                wrong = wrong or k >= len(items)
                if at > 1 and not wrong:
                    before = lines[at - 1][1:]
                    last = k == len(items) - 1
                    wrong = names[:k] == before[:k] and (name < before[k] or name == before[k] and last)
            if wrong:
                return ("invalid", at, k + 1)
        if len(names) < max(1, len(items)):
            return ("invalid", at, len(names) + 1)
    rows = [tuple(names) for _, *names in lines[1:]]
    if not rows or any(len(set(column)) < 2 for column in zip(*rows)):
        return ("invalid", len(lines), 0)
    return ("read", (tuple(items), tuple(rows)))


def changed(text, letters):
    """Yield all texts with one letter removed, replaced or inserted, and those with one line or field moved."""
    for k in range(len(text) + 1):
        yield text[:k] + text[k + 1:]
        for letter in letters:
            yield text[:k] + letter + text[k:]
            yield text[:k] + letter + text[k + 1:]
    for sign in ("\n", ",", " "):
        parts = text.split(sign)
        for k in range(len(parts)):
            yield sign.join(parts[:k] + parts[k + 1:])
            yield sign.join(parts[:k] + parts[k:k + 1] + parts[k:])
            yield sign.join(parts[k:] + parts[:k])
            yield sign.join(parts[:k + 1])


class ReadingTests(unittest.TestCase):

    def refused(self, function, text, line, field):
        with self.assertRaises(InvalidText) as caught:
            function(text)
        self.assertEqual((caught.exception.line, caught.exception.field), (line, field), text)
        self.assertIs(type(caught.exception.line), int)
        self.assertIs(type(caught.exception.field), int)

    def read(self, function, text, value):
        self.assertTrue(same(function(text), value), text)

    def test_example(self):
        self.refused(read_table, "items a\nrow y\nrow x", 2, 1)

    def test_what_was_written(self):
        self.read(read_table, TEXT, TABLE)
        for table in (*SMALL_TABLES, WIDE, full_table(4, 5, 24), full_table(8, 3, 500), full_table(3, 8)):
            self.read(read_table, table_text(table), table)
            for scope in subsets(reference.pairs_of(table)[:8]):
                self.read(read_scope, scope_text(scope), scope)
                for number in (0, 1, 9, 10, 120, 10 ** 59, 10 ** 60 - 1):
                    self.read(read_coin, coin_text((number, scope)), (number, scope))

    def test_larger_than_the_limits(self):
        scope = tuple((first + second, name) for first in "abcdefgh" for second in "abcdefgh" for name in "xyz")
        self.read(read_scope, scope_text(scope), scope)
        self.read(read_coin, coin_text((7, scope)), (7, scope))
        self.read(read_coin, coin_text(COINS[0]), COINS[0])

    def test_field_0_of_a_table(self):
        for text in ("", " ", "\n", "item a\nrow x\nrow y", "itemsa\nrow x\nrow y", "Items a\nrow x\nrow y",
                     " items a\nrow x\nrow y", "items,a\nrow x\nrow y", "row x\nrow y", "-", "items\ta\nrow x\nrow y",
                     "\nitems a\nrow x\nrow y"):
            self.refused(read_table, text, 0, 0)
        self.refused(read_table, "items a\nrows x\nrow y", 1, 0)
        self.refused(read_table, "items a\nitems x\nrow y", 1, 0)
        self.refused(read_table, "items a\nrow x\n row y", 2, 0)
        self.refused(read_table, "items a\nrow x\n\nrow y", 2, 0)
        self.refused(read_table, "items a\nrow x\nrow,y", 2, 0)
        # A newline at the end.
        self.refused(read_table, TEXT + "\n", 5, 0)
        self.refused(read_table, "items a\n", 1, 0)
        self.refused(read_table, "items a\nrow x\n", 2, 0)

    def test_items(self):
        self.refused(read_table, "items", 0, 1)
        self.refused(read_table, "items\nrow x\nrow y", 0, 1)
        self.refused(read_table, "items \nrow x\nrow y", 0, 1)
        self.refused(read_table, "items  a\nrow x\nrow y", 0, 1)
        self.refused(read_table, "items a \nrow x\nrow y", 0, 1)
        self.refused(read_table, "items a,\nrow x,x\nrow y,y", 0, 2)
        self.refused(read_table, "items ,a\nrow x,x\nrow y,y", 0, 1)
        self.refused(read_table, "items a,,b\nrow x,x\nrow y,y", 0, 2)
        self.refused(read_table, "items a, b\nrow x,x\nrow y,y", 0, 2)
        self.refused(read_table, "items abcdefghi\nrow x\nrow y", 0, 1)
        self.refused(read_table, "items a,A\nrow x,x\nrow y,y", 0, 2)
        self.refused(read_table, "items b,a\nrow x,x\nrow y,y", 0, 2)
        self.refused(read_table, "items a,a\nrow x,x\nrow y,y", 0, 2)
        self.refused(read_table, "items a,b,ab\nrow x,x,x\nrow y,y,y", 0, 3)
        self.read(read_table, "items a,ab,b\nrow x,x,x\nrow y,y,y",
                  (("a", "ab", "b"), (("x", "x", "x"), ("y", "y", "y"))))
        self.read(read_table, "items abcdefgh\nrow x\nrow y", (("abcdefgh",), (("x",), ("y",))))

    def test_rows(self):
        self.refused(read_table, "items a\nrow", 1, 1)
        self.refused(read_table, "items a\nrow x\nrow", 2, 1)
        self.refused(read_table, "items a\nrow \nrow y", 1, 1)
        self.refused(read_table, "items a,b\nrow x\nrow y,y", 1, 2)
        self.refused(read_table, "items a,b\nrow x,x\nrow y", 2, 2)
        self.refused(read_table, "items a,b\nrow x,\nrow y,y", 1, 2)
        self.refused(read_table, "items a,b\nrow ,x\nrow y,y", 1, 1)
        self.refused(read_table, "items a\nrow x,y\nrow y", 1, 2)
        self.refused(read_table, "items a\nrow x\nrow y,", 2, 2)
        self.refused(read_table, "items a\nrow x\nrow y,y,1", 2, 2)
        self.refused(read_table, "items a\nrow x\nrow abcdefghi", 2, 1)
        self.refused(read_table, "items a\nrow x y\nrow y", 1, 1)
        self.refused(read_table, "items a\nrow x\nrow Y", 2, 1)

    def test_order_of_rows(self):
        head = "items a,b,c\nrow g,g,g\n"
        self.refused(read_table, head + "row g,g,g", 2, 3)
        self.refused(read_table, head + "row g,g,f", 2, 3)
        self.refused(read_table, head + "row g,f,z", 2, 2)
        self.refused(read_table, head + "row f,z,z", 2, 1)
        # The field that shows it comes before a later one that is no name, missing or surplus.
        self.refused(read_table, head + "row g,f,Z", 2, 2)
        self.refused(read_table, head + "row f", 2, 1)
        self.refused(read_table, head + "row g,g", 2, 3)
        self.refused(read_table, head + "row g,g,g,g", 2, 3)
        self.refused(read_table, head + "row g,g,h,g", 2, 4)
        # An earlier field that is no name comes first.
        self.refused(read_table, head + "row G,f,f", 2, 1)
        # Only the row directly before matters.
        self.read(read_table, head + "row g,g,h\nrow g,h,a\nrow h,a,a",
                  (("a", "b", "c"), (("g", "g", "g"), ("g", "g", "h"), ("g", "h", "a"), ("h", "a", "a"))))
        self.refused(read_table, head + "row h,a,a\nrow g,g,h", 3, 1)
        self.refused(read_table, "items a\nrow x\nrow y\nrow y", 3, 1)

    def test_first_invalid_line(self):
        self.refused(read_table, "items b,a\nrows", 0, 2)
        self.refused(read_table, "items a\nrow 1\nrows", 1, 1)
        self.refused(read_table, "items a\nrow x\nrow x\nrow\n", 2, 1)

    def test_too_few_candidates(self):
        self.refused(read_table, "items a", 1, 0)
        self.refused(read_table, "items a,b", 1, 0)
        self.refused(read_table, "items a\nrow x", 2, 0)
        self.refused(read_table, "items a,b\nrow x,x\nrow x,y", 3, 0)
        self.refused(read_table, "items a,b\nrow x,x\nrow y,x\nrow z,x", 4, 0)

    def test_scopes(self):
        self.read(read_scope, "-", ())
        self.read(read_scope, "a:b", (("a", "b"),))
        self.read(read_scope, "abcdefgh:abcdefgh,b:a", (("abcdefgh", "abcdefgh"), ("b", "a")))
        # As pairs, not as texts: ":" comes after no letter of a name.
        self.read(read_scope, "a:z,ab:c", (("a", "z"), ("ab", "c")))
        for text in ("", " ", "a", "a:", ":b", ":", "a:b:c", "a:b ", " a:b", "A:b", "a:B", "a:1", "abcdefghi:b", "--",
                     "a:abcdefghi", "-\n", "\n", "a:b\n", "\na:b", "a:b\n,c:d", "-,a:b", "a=b", ",a:b", ",", "a :b"):
            self.refused(read_scope, text, 0, 0)
        for text in ("a:b,", "a:b,-", "a:b,a:b", "a:c,a:b", "b:a,a:b", "a:b,b", "a:b, b:c", "a:b,b:c\n", "a:b,,b:c",
                     "a:b,\nb:c", "a:b,a:b,a:b"):
            self.refused(read_scope, text, 0, 1)
        self.refused(read_scope, "a:b,a:c,a:b", 0, 2)
        self.refused(read_scope, "a:b,b:a,b:c:d", 0, 2)

    def test_coins(self):
        self.read(read_coin, "0=-", (0, ()))
        self.read(read_coin, "3=room:big,time:mon", (3, (("room", "big"), ("time", "mon"))))
        self.read(read_coin, "1" + "0" * 59 + "=a:b", (10 ** 59, (("a", "b"),)))
        for text in ("", "=", "=-", "=a:b", "00=-", "01=a:b", "-1=a:b", "+1=a:b", " 1=a:b", "1 =a:b", "a=a:b", "a:b",
                     "-", "1.0=-", "1_0=-", "9" * 61 + "=-", "9" * 61, "0" * 60 + "=-", "1\n=-", "\n1=-", "1\n", "01",
                     "\u0661=-", "\u00b2=-", "9" * 5000 + "=-"):
            self.refused(read_coin, text, 0, 0)
        for text in ("1", "0", "9" * 60, "1=", "1=a", "1==", "1==a:b", "1=-=", "1=-\n", "1=\n", "1=-,a:b", "1=a:b=c:d",
                     "1= a:b", "1=A:b", "1=a:b\n"):
            self.refused(read_coin, text, 0, 1)
        self.refused(read_coin, "1=a:b,", 0, 2)
        self.refused(read_coin, "1=a:b,a:b", 0, 2)
        self.refused(read_coin, "1=a:b,c:d=e:f", 0, 2)
        self.refused(read_coin, "1=a:b,b:c,a:a", 0, 3)

    def test_all_short_texts(self):
        for size in range(7):
            for letters in itertools.product("ab:,-", repeat=size):
                self.check_scope("".join(letters))
        for size in range(6):
            for letters in itertools.product("01=a:,-\n", repeat=size):
                self.check_scope("".join(letters))
                self.check_coin("".join(letters))
        for size in range(7):
            for parts in itertools.product(("items", "row", " ", "a", ",", "\n"), repeat=size):
                self.check_table("".join(parts))

    def test_changed_texts(self):
        for text in ("items b,d\nrow b,d\nrow b,f\nrow d,b", "items b\nrow b\nrow d", TEXT):
            for other in changed(text, "ace,: -\nB1"):
                self.check_table(other)
        for text in changed("12=b:b,b:d,bd:b,d:b", "ace,: -\nB10="):
            self.check_coin(text)
            self.check_scope(text.partition("=")[2])

    def check_table(self, text):
        found = outcome(read_table, text)
        self.assertTrue(same(found, expected_table(text)), (text, found, expected_table(text)))
        if found[0] == "read":
            lets_table(found[1])
            self.assertEqual(table_text(found[1]), text)

    def check_scope(self, text):
        found = outcome(read_scope, text)
        self.assertTrue(same(found, expected_scope(text)), (text, found))
        if found[0] == "read":
            self.assertTrue(is_scope(found[1]))
            self.assertEqual(scope_text(found[1]), text)

    def check_coin(self, text):
        found = outcome(read_coin, text)
        self.assertTrue(same(found, expected_coin(text)), (text, found))
        if found[0] == "read":
            self.assertTrue(is_coin(found[1]))
            self.assertEqual(coin_text(found[1]), text)


if __name__ == "__main__":
    unittest.main()
