"""Points 82 and 83: the desk, its strings, answers, errors and counts."""

import random
import unittest

from chosenlast.desk import Desk
from chosenlast.errors import InvalidRow, InvalidStep, NothingToUndo, UnknownName, UnknownPair
from chosenlast.rowtexts import log_lines, row_line
from chosenlast.tabletexts import coin_text, scope_text
from chosenlast.truths import rows_left
from chosenlast.worlds import World
from tests.test_histories import Drawer
from tests.test_truths import BUSY, CHOSEN
from tests.test_worlds import world_of
from tests.values import COIN_TOSS, PROGRAM, SMALL_TABLES, TABLE, WIDE, full_table, same
from tests.worldmodel import Model, Refused

TOSS = "world ann\nitems a\nrow x\nrow y"
OPENING = "world ann,bob\nitems room,time\nrow big,mon\nrow big,tue\nrow small,mon\nrow small,wed"
LINE = OPENING.replace("\n", " / ")
START = "start ann ask room big say large ask time mon say early stop stop stop"
GREAT = "9" * 60

# Strings of no form, before and after the first world.
NO_FORMS = ("", " ", "\n", "-", "0", "ok", "Undo", "undo ", " undo", "undo 1", "undo\n", "\nundo", "count ", "counts",
            "COUNT", "log\n", "log -", "logs", "widest ", "widest -", "wide", "rows -", "row", "row x", "rows ",
            "struck", "struck ", "struck Ann", "struck ann ", "struck  ann", " struck ann", "struck ann bob",
            "struck ann,bob", "struck -", "struck 0", "struck ann\n", "struck abcdefghi", "coins", "coins ", "coins -",
            "coins ann bob", "coins Ann", "coins 0", "run", "run ", "run ann", "run -1", "run 00", "run 01", "run 0 ",
            "run 0 1", "run  0", "run 0,1", "run -", "run 0\n", "run 1" + "0" * 60, "answers", "answers ", "answers x",
            "answers 00", "answers 0 0", "answers -", "answers 9" + GREAT, "answer", "answer 0", "answer 0 yes",
            "answer 0 maybe -", "issue", "issue ann", "issue ann room", "issue ann -  ", "issue Ann -",
            "issue ann room:big\n", "pass ann bob", "pass ann bob x", "return ann", "narrow ann 0", "news bob -",
            "news - -", "arrive", "arrive 0 ", "arrive 1" + "0" * 60, "call ", "call\n", "calls", "choose", "choose ",
            "choose Big,mon", "start ann", "start ann sto", "start ann stop stop", "world", "world ann", "world ann\n",
            "world ann\nitems a", "world ann\nitems a\nrow x", "world ann\nitems a\nrow x\nrow x",
            "world ann\nitems a\nrow y\nrow x", "world ann\nitems a\nrow x\nrow y\n",
            "world ann\nitems a\nrow x\nrow y\ncall", "\n" + TOSS, " " + TOSS, TOSS + " ", "items a\nrow x\nrow y",
            "world\nitems a\nrow x\nrow y", "world bob,ann\nitems a\nrow x\nrow y", "world ann \nitems a\nrow x\nrow y",
            "world ann\nitems a\n\nrow x\nrow y", "world ann\nitems a\nrow x,x\nrow y",
            "world ann / items a / row x / row y", TOSS + "\nissue ann -", TOSS + "\nrow", "call\ncall", "undo\ncount",
            "~" * 4000)

# Strings of some form that need a world.
FORMS = ("undo", "count", "log", "widest", "rows", "struck ann", "coins ann", "struck zoo", "run 0", "answers 0",
         "call", "issue ann -", "issue zoo zoo:x", "start ann stop", "start eve ask zoo - stop stop",
         "answer 0 yes 1,0", "pass ann ann 0", "return ann 0", "narrow ann 0 -", "news - bob", "arrive 0", "choose -",
         "run " + GREAT)


class DeskTestCase(unittest.TestCase):

    def raises(self, desk, row, kind, /, **fields):
        counts = desk.counts()
        with self.assertRaises(kind) as caught:
            desk.say(row)
        self.assertIs(type(caught.exception), kind)
        self.assertTrue(same(sorted(vars(caught.exception).items()), sorted(fields.items())),
                        (row, vars(caught.exception)))
        if kind is InvalidRow:
            self.assertIs(caught.exception.row, row)
        self.assertTrue(same(desk.counts(), (counts[0] + 1, counts[1] + 1)))

    def says(self, desk, *rows):
        """The desk answers these strings; they are given with their answers, one after the other."""
        for row, answer in zip(rows[::2], rows[1::2]):
            self.assertTrue(same(desk.say(row), answer), (row, answer))


def desk_of(*rows):
    desk = Desk()
    for row in rows:
        desk.say(row)
    return desk


class DeskTests(DeskTestCase):

    def test_example(self):
        desk = Desk()
        rows = ("world ann\nitems a\nrow x\nrow y", "issue ann a:x", "arrive 0", "coins ann", "widest")
        self.assertEqual([desk.say(row) for row in rows], ["ok", "0", "yes", "0=a:x", "a:x"])

    def test_methods_stand_in_the_class(self):
        for name in ("__init__", "say", "counts"):
            self.assertIn(name, vars(Desk))
        self.assertEqual(Desk.__module__, "chosenlast.desk")

    def test_before_the_first_world(self):
        desk = Desk()
        for row in NO_FORMS + FORMS:
            self.raises(desk, row, InvalidRow, row=row)
        self.says(desk, TOSS, "ok", "count", "0")

    def test_strings_of_no_form(self):
        desk = desk_of(TOSS, "issue ann -", "arrive 0")
        for row in NO_FORMS:
            self.raises(desk, row, InvalidRow, row=row)
        self.says(desk, "log", "world ann / items a / row x / row y / issue ann - / arrive 0")

    def test_rows(self):
        desk = Desk()
        self.says(
            desk, OPENING, "ok", "issue ann room:small,time:tue", "0", "arrive 0", "yes", "arrive 0", "no", START, "0",
            "start bob stop", "1", "start ann say hi say ho ask room big say yes stop stop", "2", "answer 0 yes 0",
            "large",
            "answer 2 yes -", "yes", "issue bob time:tue", "1", "arrive 2", "yes", "news ann bob", "ok", "news - bob",
            "ok",
            "pass bob ann 1", "ok", "arrive 5", "yes", "narrow ann 1 time:tue", "ok", "answer 0 yes 1", "early",
            "arrive 1", "yes", "arrive 6", "yes", "call", "ok", "arrive 7", "yes", "choose big,mon", "ok", "count",
            "21")

    def test_words_of_an_answer(self):
        desk = desk_of(TOSS, "start ann ask a x,y say b say c ask a - stop say d ask a x,y stop stop stop")
        self.says(desk, "answer 0 yes -", "b,c", "answer 0 no -", "d", "answer 0 yes -", "-", "run 0",
                  "yes,no,yes b,c,d")

    def test_queries(self):
        desk = desk_of(OPENING)
        self.says(
            desk, "count", "0", "log", LINE, "widest", "room:big,room:small,time:mon,time:tue,time:wed", "rows",
            "big,mon big,tue small,mon small,wed", "struck ann", "-", "coins bob", "-")
        for row in ("issue ann room:big,room:small", "issue ann -", "issue bob time:tue", "arrive 0", "arrive 1",
                    START):
            desk.say(row)
        self.says(
            desk, "coins ann", "0=room:big,room:small 1=-", "coins bob", "-", "widest", "time:tue,time:wed", "run 0",
            "- -",
            "answers 0", "no,yes", "answer 0 yes 0", "large", "run 0", "yes large", "answers 0", "-", "struck ann",
            "room:small",
            "rows", "big,mon big,tue", "coins ann", "1=-", "count", "7", "log",
            LINE + " / issue ann room:big,room:small / issue ann - / "
            "issue bob time:tue / arrive 0 / arrive 1 / " + START + " / answer 0 yes 0", "start bob stop", "1",
            "run 1", "- -",
            "answers 1", "-", "start bob say a say b stop", "2", "run 2", "- a,b")

    def test_separators(self):
        """Commas, but spaces between coins and between rows."""
        desk = desk_of(OPENING, "call", "choose small,wed", "arrive 2", START, "answer 0 no -")
        self.says(desk, "struck ann", "room:big,time:mon,time:tue", "run 0", "no -", "answers 0", "-", "rows",
                  "small,mon small,wed",
                  "coins ann", "-", "struck bob", "-")
        desk = desk_of("world ann\nitems a\nrow x\nrow y", "start ann ask a x stop stop", "call", "choose y",
                       "arrive 1", "answer 0 no -")
        self.says(desk, "rows", "y")

    def test_empty_scopes(self):
        """No pairs are answered with -, as no elements are."""
        desk = desk_of("world ann\nitems a\nrow x\nrow y", "issue ann a:x", "issue ann -")
        self.says(desk, "widest", "a:x", "arrive 1", "yes", "coins ann", "1=-")

    def test_undo(self):
        desk = desk_of(OPENING)
        self.raises(desk, "undo", NothingToUndo, steps=0)
        rows = ("issue ann room:small,time:tue", "arrive 0", "arrive 0", START, "answer 0 yes 0", "news - bob", "call",
                "start bob stop")
        for row in rows:
            desk.say(row)
        for row in rows[::-1]:
            self.says(desk, "undo", row)
        self.raises(desk, "undo", NothingToUndo, steps=0)
        self.says(desk, "log", LINE, "count", "0")

    def test_errors_of_the_world(self):
        desk = desk_of(OPENING, "issue ann room:big", "arrive 0", START)
        for row, step, reason in (
                ("issue ann room:small", ("issue", "ann", (("room", "small"),)), "unsafe"),
                ("issue eve zoo:x", ("issue", "eve", (("zoo", "x"),)), "office"),
                ("start ann ask zoo - stop stop", ("start", "ann", ("ask", "zoo", (), ("stop",), ("stop",))), "shape"),
                ("start ann ask room mon stop stop", ("start", "ann", ("ask", "room", ("mon",), ("stop",), ("stop",))),
                 "shape"),
                ("answer 1 no 0", ("answer", 1, "no", (0,)), "run"),
                ("answer 0 no 7,7", ("answer", 0, "no", (7, 7)), "many"),
                ("answer 0 no 7", ("answer", 0, "no", (7,)), "coin"),
                ("pass ann ann 0", ("pass", "ann", "ann", 0), "same"),
                ("return bob 0", ("return", "bob", 0), "coin"), ("arrive 1", ("arrive", 1), "letter"),
                ("arrive " + GREAT, ("arrive", 10 ** 60 - 1), "letter"), ("narrow ann 0 time:mon", (
                    "narrow", "ann", 0, (("time", "mon"),)), "scope"),
                    ("choose big,mon", ("choose", ("big", "mon")), "open"),
                ("choose -", ("choose", ()), "open"), ("news eve ann", ("news", "eve", "ann"), "office")):
            self.raises(desk, row, InvalidStep, step=step, reason=reason)
        self.raises(desk, "issue ann room:mon", UnknownPair, pair=("room", "mon"))
        self.raises(desk, "narrow ann 7 a:b,zoo:x", UnknownPair, pair=("a", "b"))
        self.says(desk, "call", "ok")
        self.raises(desk, "call", InvalidStep, step=("call",), reason="called")
        self.says(desk, "count", "4")

    def test_unknown_offices_and_runs(self):
        desk = desk_of(OPENING, START)
        for name in ("eve", "an", "annn", "abcdefgh", "undo"):
            self.raises(desk, "struck " + name, UnknownName, name=name)
            self.raises(desk, "coins " + name, UnknownName, name=name)
        for number in (1, 2, 10, 10 ** 60 - 1):
            self.raises(desk, f"run {number}", InvalidStep, step=number, reason="run")
            self.raises(desk, f"answers {number}", InvalidStep, step=number, reason="run")
        desk.say(TOSS)
        self.raises(desk, "run 0", InvalidStep, step=0, reason="run")
        self.raises(desk, "coins bob", UnknownName, name="bob")

    def test_a_new_world(self):
        """The earlier one is given up; the counts go on."""
        desk = desk_of(OPENING, "call", "news - bob")
        self.assertEqual(desk.counts(), (3, 3))
        self.says(desk, TOSS, "ok", "count", "0", "log", "world ann / items a / row x / row y", "widest", "a:x,a:y")
        self.assertEqual(desk.counts(), (7, 7))
        self.raises(desk, "undo", NothingToUndo, steps=0)
        self.says(desk, "issue ann a:x", "0")
        # A world that does not begin leaves the earlier one.
        self.raises(desk, "world ann\nitems a\nrow x", InvalidRow, row="world ann\nitems a\nrow x")
        self.raises(desk, TOSS + "\ncall", InvalidRow, row=TOSS + "\ncall")
        self.says(desk, "count", "1", "coins ann", "-", TOSS, "ok", "count", "0", OPENING, "ok", "struck bob", "-")

    def test_counts(self):
        desk = Desk()
        self.assertTrue(same(desk.counts(), (0, 0)))
        for k, row in enumerate(("count", "", TOSS, "count", "issue ann a:x", "issue ann a:y", "undo", "undo", "run 0",
                                 "coins zoo",
                                 "issue ann zoo:x", "call ", OPENING, "log", TOSS)):
            try:
                desk.say(row)
            except (InvalidRow, InvalidStep, NothingToUndo, UnknownName, UnknownPair):
                pass
            self.assertTrue(same(desk.counts(), (k + 1, k + 1)))
            desk.counts()
        # The desk counts strings, whatever the operations of its worlds are.
        self.assertEqual(desk_of(TOSS, "rows", "widest", "log").counts(), (4, 4))

    def test_two_desks(self):
        left, right = desk_of(TOSS), desk_of(OPENING)
        left.say("issue ann a:x")
        self.says(right, "count", "0", "rows", "big,mon big,tue small,mon small,wed")
        self.says(left, "count", "1")
        self.assertEqual((left.counts(), right.counts()), ((3, 3), (3, 3)))

    def test_by_name(self):
        desk = Desk()
        self.assertEqual(desk.say(row=TOSS), "ok")
        self.assertEqual(desk.say(row="count"), "0")


class HistoryTests(DeskTestCase):

    def check(self, desk, world):
        """Every query answers what the world returns."""
        names = world.log()[0][2]
        self.says(desk, "count", str(len(world)), "log", str(world), "widest", scope_text(world.widest_now()),
                  "rows", " ".join(",".join(row) for row in rows_left(world)))
        for name in names:
            struck, coins, _ = world.office_now(name)
            self.says(desk, "struck " + name, scope_text(struck), "coins " + name,
                      " ".join(map(coin_text, coins)) or "-")
        for k, (_, _, path, output) in enumerate(world.runs_now()):
            self.says(desk, f"run {k}", (",".join(path) or "-") + " " + (",".join(output) or "-"),
                      f"answers {k}", ",".join(world.answers_now(k)) or "-")

    def answer(self, row, result):
        if row[0] in ("issue", "start"):
            return str(result)
        if row[0] == "answer":
            return ",".join(result) or "-"
        if row[0] == "arrive":
            return "yes" if result else "no"
        return "ok"

    def test_worlds_of_other_tests(self):
        for rows in ((), BUSY, CHOSEN):
            desk, world = desk_of(OPENING), World(TABLE, ("ann", "bob"))
            for row in rows:
                self.says(desk, row_line(row), self.answer(row, world.go(row)))
                self.check(desk, world)
            for row in rows[::-1]:
                self.says(desk, "undo", row_line(row))
                world.undo()
            self.check(desk, world)

    def test_drawn_histories(self):
        for seed in range(20):
            draw = random.Random(8200 + seed)
            table = (*SMALL_TABLES, WIDE)[seed % 5]
            names = ("ann", "bob")
            drawer = Drawer(draw, table, names)
            world, model = World(table, names), Model(table, names)
            desk = desk_of("\n".join(log_lines(world.log())))
            for k in range(30):
                row = drawer.row(model, k / 30)
                if row is None or len(row) == 2 and row[0] == "issue":
                    continue
                try:
                    model.do(row)
                except Refused as refusal:
                    kind, field = refusal.args
                    with self.assertRaises((InvalidStep, UnknownPair)) as caught:
                        desk.say(row_line(row))
                    found = vars(caught.exception)
                    self.assertTrue(same(found, {"pair": field} if kind == "UnknownPair" else {"step": row,
                                                                                               "reason": field}))
                else:
                    self.says(desk, row_line(row), self.answer(row, world.go(row)))
            self.check(desk, world)

    def test_at_the_limits(self):
        table = full_table(4, 5, 24)
        world = World(table, ("ann", "bob", "eve"))
        desk = desk_of("\n".join(log_lines(world.log())))
        for k in range(5):
            row = ("issue", ("ann", "bob", "eve")[k % 3], world.widest_now()[k::5])
            self.says(desk, row_line(row), self.answer(row, world.go(row)))
        for k in range(30):
            row = ("arrive", k % 5)
            self.says(desk, row_line(row), self.answer(row, world.go(row)))
        self.check(desk, world)
        desk = desk_of("\n".join(log_lines(world_of(table=COIN_TOSS).log())))
        self.says(desk, "start ann " + "say a " * 660 + "stop", "0", "run 0", "- " + ",".join("a" * 660), "undo",
                  "start ann " + "say a " * 660 + "stop")
        self.assertEqual(len(PROGRAM), 5)


if __name__ == "__main__":
    unittest.main()
