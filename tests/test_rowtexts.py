"""Points 79 to 81: lines of rows and logs, and reading them."""

import random
import unittest

from chosenlast.errors import InvalidText
from chosenlast.replaying import is_log, replayed
from chosenlast.rowreadings import read_log, read_row
from chosenlast.rowtexts import log_lines, row_line
from chosenlast.tabletexts import table_text
from tests import reference
from tests.test_truths import BUSY, CHOSEN
from tests.test_worlds import world_of
from tests.values import (
    PROGRAM, SMALL_TABLES, TABLE, WIDE, copied, drawn_program, drawn_scope, drawn_table, full_table, same)

BIG, SMALL = ("room", "big"), ("room", "small")
MON = ("time", "mon")
STOP = ("stop",)
GREAT = 10 ** 60 - 1

# Rows, also such as no table has, with their lines.
LINES = (
    (("issue", "ann", (BIG,)), "issue ann room:big"),
    (("issue", "issue", (BIG, SMALL, MON, ("zoo", "x"))), "issue issue room:big,room:small,time:mon,zoo:x"),
    (("issue", "abcdefgh", ()), "issue abcdefgh -"),
    (("start", "ann", STOP), "start ann stop"),
    (("start", "stop", ("say", "stop", STOP)), "start stop say stop stop"),
    (("start", "ann", PROGRAM), "start ann ask room big say large ask time mon say early stop stop stop"),
    (("start", "ann", ("ask", "zoo", (), STOP, ("ask", "a", ("b", "c"), STOP, STOP))),
     "start ann ask zoo - stop ask a b,c stop stop"),
    (("answer", 0, "yes", (1, 0)), "answer 0 yes 1,0"),
    (("answer", 12, "no", ()), "answer 12 no -"),
    (("answer", GREAT, "no", (GREAT, 7, 7, 0)), f"answer {GREAT} no {GREAT},7,7,0"),
    (("pass", "ann", "bob", 0), "pass ann bob 0"),
    (("pass", "ann", "ann", 10), "pass ann ann 10"),
    (("return", "ann", 3), "return ann 3"),
    (("narrow", "ann", 3, ()), "narrow ann 3 -"),
    (("narrow", "ann", 0, (BIG, MON)), "narrow ann 0 room:big,time:mon"),
    (("news", None, "bob"), "news - bob"),
    (("news", "ann", "bob"), "news ann bob"),
    (("arrive", 0), "arrive 0"),
    (("arrive", GREAT), f"arrive {GREAT}"),
    (("call",), "call"),
    (("choose", ("big", "mon")), "choose big,mon"),
    (("choose", ("b", "a", "a")), "choose b,a,a"),
    (("choose", ()), "choose -"),
)
LOG = (("world", TABLE, ("ann", "bob")), ("issue", "ann", (BIG,)), ("arrive", 0), ("arrive", 0), ("call",),
       ("news", None, "bob"))
LOG_LINES = ["world ann,bob", "items room,time", "row big,mon", "row big,tue", "row small,mon", "row small,wed",
             "issue ann room:big", "arrive 0", "arrive 0", "call", "news - bob"]


def expected_field(line):
    """Return the first field that cannot stand, or None for the line of a row: by trying what could come next.

    A field can stand after those before it if some line of a row begins with them all. Candidates for the rest are
    short enough to be written down.
    """
    fields = line.split(" ")
    if reads(line):
        return None
    for k in range(len(fields)):
        if not any(reads(" ".join([*fields[:k + 1], *rest])) for rest in RESTS):
            return k
    return len(fields)


RESTS = [(), ("-",), ("ann",), ("0",), ("yes",), ("stop",), ("ann", "-"), ("ann", "0"), ("ann", "stop"), ("0", "-"),
         ("yes", "-"), ("0", "yes", "-"), ("ann", "0", "-"), ("ann", "ann", "0"), ("stop", "stop"), ("a", "stop"),
         ("-", "stop", "stop"), ("a", "-", "stop", "stop"), ("stop", "stop", "stop"), ("a", "stop", "stop"),
         ("a", "-", "stop", "stop", "stop"), ("-", "stop", "stop", "stop"), ("stop", "stop", "stop", "stop")]


def reads(line):
    try:
        read_row(line)
    except InvalidText:
        return False
    return True


class RowTextTests(unittest.TestCase):

    def test_lines(self):
        for row, line in LINES:
            kept = copied(row)
            self.assertTrue(same(row_line(row), line))
            self.assertTrue(same(row, kept))
            self.assertTrue(same(read_row(line), row), line)
            self.assertEqual(row_line(row=row), line)
            self.assertEqual(read_row(text=line), row)

    def test_drawn_rows(self):
        draw = random.Random(79)
        for k in range(300):
            table = (*SMALL_TABLES, WIDE)[k % 5]
            pairs, names = reference.pairs_of(table), ("a", "ann", "bob", "items", "row", "call", "stop")
            name, other, number = draw.choice(names), draw.choice(names), draw.choice((0, 1, 9, 10, 99, GREAT))
            scope = drawn_scope(draw, pairs, 4)
            program = drawn_program(draw, reference.questions(table), 6, 4)
            numbers = tuple(draw.choice((0, 3, 12, GREAT)) for _ in range(draw.randint(0, 4)))
            for row in (("issue", name, scope), ("start", name, program), ("answer", number, "no", numbers),
                        ("pass", name, other, number), ("narrow", name, number, scope), ("news", name, other),
                        ("choose", draw.choice(table[1]))):
                self.assertTrue(same(read_row(row_line(row)), row))

    def test_different_rows_have_different_lines(self):
        self.assertEqual(len({row_line(row) for row, _ in LINES}), len(LINES))

    def test_logs(self):
        for log, lines in ((LOG, LOG_LINES), (LOG[:1], LOG_LINES[:6]),
                           ((("world", SMALL_TABLES[1], ("a",)),), ["world a", "items a", "row x", "row y"])):
            kept = copied(log)
            found = log_lines(log)
            self.assertTrue(same(found, lines))
            self.assertTrue(same(log, kept))
            self.assertTrue(same(read_log(lines), log))
            self.assertEqual((read_log(lines=lines), log_lines(log=log)), (log, lines))
            self.assertIs(is_log(read_log(lines)), True)

    def test_returned_lists_are_independent(self):
        first = log_lines(LOG)
        first.append("call")
        first[0] = "world zoo"
        self.assertEqual(log_lines(LOG), LOG_LINES)
        lines = list(LOG_LINES)
        log = read_log(lines)
        self.assertEqual(lines, LOG_LINES)
        lines.clear()
        self.assertEqual(log, LOG)

    def test_all_lines_in_a_log(self):
        log = (("world", WIDE, ("ann", "bob", "issue")), *[row for row, _ in LINES])
        self.assertTrue(same(log_lines(log)[:-len(LINES)], ["world ann,bob,issue", *table_text(WIDE).split("\n")]))
        self.assertTrue(same(log_lines(log)[-len(LINES):], [line for _, line in LINES]))
        self.assertTrue(same(read_log(log_lines(log)), log))

    def test_logs_of_worlds(self):
        for rows in ((), BUSY, CHOSEN):
            world = world_of(*rows)
            self.assertTrue(same(read_log(log_lines(world.log())), world.log()))
            self.assertEqual(replayed(read_log(log_lines(world.log()))), world)
            self.assertEqual(str(world), " / ".join(log_lines(world.log())))
        draw = random.Random(80)
        for _ in range(20):
            table = drawn_table(draw, 3, 3, 6)
            self.assertTrue(same(read_log(log_lines((("world", table, ("a", "b")),))), (("world", table, ("a", "b")),)))
        log = (("world", full_table(4, 5, 24), ("ann", "bob", "eve")), *(("arrive", k) for k in range(60)))
        self.assertTrue(same(read_log(log_lines(log)), log))


class RowReadingTests(unittest.TestCase):

    def refused(self, text, field):
        with self.assertRaises(InvalidText) as caught:
            read_row(text)
        self.assertTrue(same((caught.exception.line, caught.exception.field), (0, field)),
                        (text, vars(caught.exception)))

    def test_example(self):
        self.refused("answer 0 perhaps -", 2)

    def test_words(self):
        for text in ("", " ", "  ", "-", "0", "Call", "calls", "cal", "CALL", "world", "world ann", "items a", "row x",
                     "row",
                     "undo", "count", "log", " call", "call\n", "\ncall", "issue:", "stop", "stop ann", "~" * 4000,
                     "none", "run 0", "answers 0", "struck ann"):
            self.refused(text, 0)

    def test_missing_fields(self):
        """The number of fields, if one is missing; a space at the end makes an empty one."""
        for _, line in LINES:
            fields = line.split(" ")
            for k in range(1, len(fields)):
                if fields[0] != "start" or k < 2:
                    self.refused(" ".join(fields[:k]), k)
                self.refused(" ".join(fields[:k]) + " ", k)
            self.refused(line + " ", len(fields))
        for text, field in (("start ann", 2), ("start ann say", 3), ("start ann say a", 4), ("start ann ask", 3),
                            ("start ann ask a", 4), ("start ann ask a -", 5), ("start ann ask a - stop", 6)):
            self.refused(text, field)

    def test_surplus_and_empty_fields(self):
        for _, line in LINES:
            fields = line.split(" ")
            for more in ("x", "0", "-", "stop", "call", ""):
                self.refused(line + " " + more, len(fields))
                self.refused(line + " " + more + " -", len(fields))
            for k in range(len(fields)):
                self.refused(" ".join([*fields[:k], "", *fields[k:]]), k)

    def test_names(self):
        for name in ("", "Ann", "ann1", "abcdefghi", "0", "a,b", "a:b", "a\n", "ann-", "~", "a/b", "ann\tx"):
            for text, field in (("issue {} -", 1), ("start {} stop", 1), ("pass {} ann 0", 1), ("pass ann {} 0", 2),
                                ("return {} 0", 1), ("narrow {} 0 -", 1), ("news {} ann", 1), ("news ann {}", 2),
                                ("news - {}", 2), ("start ann say {} stop", 3), ("start ann ask {} - stop stop", 3)):
                self.refused(text.format(name), field)
        # The bank is a sender, and nothing else.
        for text, field in (("issue - -", 1), ("start - stop", 1), ("pass - ann 0", 1), ("pass ann - 0", 2),
                            ("return - 0", 1), ("narrow - 0 -", 1), ("news ann -", 2), ("news - -", 2)):
            self.refused(text, field)

    def test_numbers(self):
        for number in ("", "-", "-1", "+1", "00", "01", "1.0", "a", "1,2", "0x1", "1_0", str(10 ** 60), "9" * 4000,
                       "yes", "1\n"):
            for text, field in (("answer {} yes -", 1), ("pass ann bob {}", 3), ("return ann {}", 2),
                                ("narrow ann {} -", 2),
                                ("arrive {}", 1)):
                self.refused(text.format(number), field)
        self.assertEqual(read_row("arrive " + "9" * 60), ("arrive", 10 ** 60 - 1))

    def test_numbers_of_an_answer(self):
        for numbers in ("", ",", "1,", ",1", "1,,2", "01", "1,-", "-,1", "--", "-1", "a", "1,a", "1," + str(10 ** 60),
                        "(1)",
                        "1\n"):
            self.refused(f"answer 0 yes {numbers}", 3)
        for numbers, expected in (("1,0", (1, 0)), ("0,0,0", (0, 0, 0)), ("-", ()), ("7", (7,))):
            self.assertTrue(same(read_row("answer 3 no " + numbers), ("answer", 3, "no", expected)))

    def test_answers(self):
        for answer in ("", "perhaps", "Yes", "y", "-", "yes,no", "1", "yes\n"):
            self.refused(f"answer 0 {answer} -", 2)
            self.refused(f"answer 0 {answer} x", 2)

    def test_scopes(self):
        for scope in ("", "room", "room:", ":big", "room:big,", ",room:big", "time:mon,room:big", "room:big,room:big",
                      "--",
                      "room:Big", "room:big:x", "-,room:big", "room:big,-", "0=room:big", "a:b\n"):
            self.refused("issue ann " + scope, 2)
            self.refused("narrow ann 0 " + scope, 3)

    def test_chosen_rows(self):
        for row in ("", ",", "big,", ",mon", "big,,mon", "Big,mon", "big,0", "--", "-,mon", "big,-", "a:b", "big\n"):
            self.refused("choose " + row, 1)

    def test_programs(self):
        for text, field in (("go", 0), ("say", 1), ("say A stop", 1), ("say a", 2), ("say a say", 3), ("say a b", 2),
                            ("ask a b,a stop stop", 2), ("ask a b,b stop stop", 2), ("ask a b, stop stop", 2),
                            ("ask a - stop", 4), ("ask a - stop stop stop", 5), ("stop stop", 1), ("stop -", 1),
                            ("-", 0),
                            ("ask - - stop stop", 1), ("ask a  stop stop", 2), ("ask a - stop  stop", 4)):
            self.refused("start ann " + text, field + 2)

    def test_the_first_field_that_cannot_stand(self):
        self.refused("issue Ann room", 1)
        self.refused("answer x y z w", 1)
        self.refused("narrow ann x y z", 2)
        self.refused("start Ann x", 1)
        self.refused("call x", 1)

    def test_changed_lines(self):
        for _, line in LINES:
            fields = line.split(" ")
            if len(line) < 60 and fields.count("ask") < 2:
                for k in range(len(fields)):
                    for other in ("", "-", "0", "ann", "yes", "stop", "a:b", "x,y", "call"):
                        for changed in ([*fields[:k], other, *fields[k + 1:]], [*fields[:k], other, *fields[k:]]):
                            field = expected_field(" ".join(changed))
                            if field is not None:
                                self.refused(" ".join(changed), field)


class LogReadingTests(unittest.TestCase):

    def refused(self, lines, line, field):
        kept = list(lines)
        with self.assertRaises(InvalidText) as caught:
            read_log(lines)
        self.assertTrue(same((caught.exception.line, caught.exception.field), (line, field)), (
            lines, vars(caught.exception)))
        self.assertEqual(lines, kept)

    def test_the_empty_list(self):
        self.refused([], 0, 0)

    def test_line_0(self):
        for text, field in (("", 0), ("World ann", 0), ("items a", 0), (" world ann", 0), ("call", 0), ("world", 1),
                            ("world ", 1), ("world  ann", 1), ("world -", 1), ("world Ann", 1), ("world ann,", 1),
                            ("world ,ann", 1), ("world ann,ann", 1), ("world bob,ann", 1), ("world ann,bob,bob", 1),
                            ("world abcdefghi", 1), ("world ann ", 2), ("world ann bob", 2), ("world ann,bob  x", 2),
                            ("world 0", 1), ("world ann\n", 1)):
            self.refused([text], 0, field)
            self.refused([text, *LOG_LINES[1:]], 0, field)
            self.refused([text, "row", "x"], 0, field)

    def test_missing_lines(self):
        """The index directly after the lines of the table that are there, whatever the list has there."""
        self.refused(LOG_LINES[:1], 1, 0)
        self.refused(LOG_LINES[:2], 2, 0)
        for more in ([], ["call"], ["", "row x,y"], ["items a", "row x"], ["rows", "row a"], ["row"]):
            for k in range(2, 5):
                self.refused([*LOG_LINES[:k], *more], k, 0)
            self.refused(["world a", "items a", *more], 2, 0) if more[1:] != ["row x"] else None
            self.refused(["world a", "items a", "row x", *more], 3, 0)
        # The table is whole, as soon as each item has two candidates.
        self.assertEqual(len(read_log([*LOG_LINES[:3], LOG_LINES[5]])[0][1][1]), 2)

    def test_lines_of_the_table(self):
        for text, field in (("", 0), ("item room,time", 0), ("row big,mon", 0), ("call", 0), ("issue ann -", 0),
                            ("items", 1),
                            ("items ", 1), ("items room,", 2), ("items time,room", 2), ("items room,Time", 2),
                            ("items room, time", 2), ("items room,room", 2), (" items a", 0)):
            self.refused([LOG_LINES[0], text, *LOG_LINES[2:]], 1, field)
        for k in range(2, 6):
            for text, field in (("row ", 1), ("row Big", 1), ("row a", 2), ("row zoo,", 2), ("row zoo,mon,", 3),
                                ("row zoo,mon,x", 3), ("row  zoo,mon", 1), ("row zoo mon", 1)):
                if text != "row a" or k == 2:
                    self.refused([*LOG_LINES[:k], text, *LOG_LINES[k + 1:]], k, field)
        for k, text, field in ((3, "row big,mon", 2), (3, "row big,a", 2), (3, "row a", 1), (4, "row big,mon", 2),
                               (5, "row big", 1), (5, "row small,mon", 2), (5, "row small,", 2)):
            self.refused([*LOG_LINES[:k], text, *LOG_LINES[k + 1:]], k, field)

    def test_lines_of_rows(self):
        for k in range(6, len(LOG_LINES)):
            for text, field in (("", 0), ("row", 0), ("rows a", 0), ("world ann", 0), ("items a", 0), ("call ", 1),
                                ("issue", 1),
                                ("answer 0 perhaps -", 2), ("start ann ask a - stop", 6), (" row big,mon", 0),
                                ("row big,mon" if k > 6 else "Row big,mon", 0)):
                self.refused([*LOG_LINES[:k], text, *LOG_LINES[k:]], k, field)
                self.refused([*LOG_LINES[:k], text, "", "x"], k, field)
        # Directly after the table, such a line still belongs to it.
        self.refused([*LOG_LINES[:6], "row big,mon", *LOG_LINES[6:]], 6, 1)
        self.assertEqual(len(read_log([*LOG_LINES[:6], "row zoo,mon", *LOG_LINES[6:]])[0][1][1]), 5)

    def test_the_first_line_that_is_not_valid(self):
        self.refused(["world", "items", "row", "x"], 0, 1)
        self.refused(["world ann", "items B", "row ", "x"], 1, 1)
        self.refused(["world ann", "items b", "row X", "x"], 2, 1)
        self.refused(["world ann", "items b", "row x", "x"], 3, 0)
        self.refused(["world ann", "items b", "row x", "row y", "x", ""], 4, 0)

    def test_rows_with_any_names(self):
        log = read_log(["world ann", "items a", "row x", "row y", "issue eve zoo:old", "answer 7 yes 3,3,0", "choose -",
                        "start bob ask zoo old stop stop"])
        self.assertTrue(same(log[1:], (("issue", "eve", (("zoo", "old"),)), ("answer", 7, "yes", (3, 3, 0)),
                                       ("choose", ()),
                                       ("start", "bob", ("ask", "zoo", ("old",), STOP, STOP)))))
        # A program that is not one of the table is no row of a log.
        self.assertIs(is_log(log), False)
        self.assertIs(is_log(log[:-1]), True)

    def test_each_line_with_a_space_behind_it(self):
        for k in range(6, len(LOG_LINES)):
            lines = list(LOG_LINES)
            lines[k] += " "
            self.refused(lines, k, len(LOG_LINES[k].split(" ")))


if __name__ == "__main__":
    unittest.main()
