"""Points 75 to 77: logs, equality, undo, several rows in one operation, counts, replaying."""

import unittest

from chosenlast.errors import InvalidStep, NothingToUndo, UnknownPair
from chosenlast.replaying import is_log, replayed
from chosenlast.truths import rows_left
from chosenlast.worlds import World
from tests.test_truths import ANSWERED, BUSY, CHOSEN
from tests.test_worlds import ROOM, STOP, asked, world_of
from tests.values import (
    ANY_VALUES, COIN_TOSS, PROGRAM, SMALL_TABLES, SQUARE, TABLE, copied, full_table, nested, same, variants)

BIG, SMALL = ("room", "big"), ("room", "small")
MON, TUE = ("time", "mon"), ("time", "tue")
UNKNOWN = ("room", "mon")
OPENING = ("world", TABLE, ("ann", "bob"))


def is_program_of(table, thing):
    """Whether the value is a program of the table, by the words of point 38."""
    if type(thing) is not tuple or not thing:
        return False
    if thing[0] == "say":
        return len(thing) == 3 and is_word(thing[1]) and is_program_of(table, thing[2])
    if thing[0] == "ask":
        return (len(thing) == 5 and is_word(thing[1]) and thing[1] in table[0] and type(thing[2]) is tuple
                and all(is_word(name) for name in thing[2]) and list(thing[2]) == sorted(set(thing[2]))
                and all(any(row[table[0].index(thing[1])] == name for row in table[1]) for name in thing[2])
                and is_program_of(table, thing[3]) and is_program_of(table, thing[4]))
    return thing == ("stop",)


def is_word(thing):
    return type(thing) is str and 1 <= len(thing) <= 8 and all("a" <= letter <= "z" for letter in thing)


class EqualityTests(unittest.TestCase):

    def equal(self, left, right, expected):
        for one, other in ((left, right), (right, left)):
            self.assertIs(one == other, expected)
            self.assertIs(one != other, not expected)

    def test_equal_worlds(self):
        for rows in ((), ANSWERED, BUSY, CHOSEN, (("call",),)):
            left, right = world_of(*rows), world_of(*copied(rows))
            self.equal(left, right, True)
            self.equal(left, left, True)
            # Counts do not matter.
            with self.assertRaises(InvalidStep):
                right.go(None)
            self.equal(left, right, True)
            right.call_all() if rows in ((), ANSWERED, BUSY) else right.send_news(None, "bob")
            self.equal(left, right, False)
            right.undo()
            self.equal(left, right, True)

    def test_unequal_worlds(self):
        worlds = [world_of(), world_of(names=("ann",)), world_of(names=("ann", "eve")), world_of(table=COIN_TOSS),
                  world_of(table=SQUARE), world_of(("call",)), world_of(("start", "ann", STOP)),
                  world_of(("start", "bob", STOP)), world_of(("start", "ann", STOP), ("start", "ann", STOP)),
                  world_of(("issue", "ann", ())), world_of(("issue", "ann", (BIG,))),
                  world_of(("issue", "ann", ()), ("arrive", 0)),
                  world_of(("issue", "ann", ()), ("arrive", 0), ("arrive", 0)),
                  world_of(("issue", "ann", ()), ("start", "ann", STOP)),
                  world_of(("start", "ann", STOP), ("issue", "ann", ())),
                  world_of(("news", None, "ann")), world_of(("news", "bob", "ann")),
                  world_of(("start", "ann", ("say", "stop", STOP))), world_of(("start", "ann", ("say", "say", STOP)))]
        for k, left in enumerate(worlds):
            for j, right in enumerate(worlds):
                self.equal(left, right, j == k)

    def test_any_other_value(self):
        for world in (world_of(), world_of(*ANSWERED)):
            for thing in (*ANY_VALUES, world.log(), str(world), len(world), list(world.log()), (world,), [world]):
                self.equal(world, thing, False)
            self.assertIn(world, [None, world_of(*world.log()[1:])])
            self.assertNotIn(world, [None, 0, world.log()])

    def test_worlds_with_the_same_state_and_another_past(self):
        left = world_of(("issue", "ann", (BIG,)), ("arrive", 0))
        right = world_of(("issue", "ann", (BIG,)), ("arrive", 0), ("arrive", 0))
        self.assertEqual(asked(left)[:8], asked(right)[:8])
        self.equal(left, right, False)


class LogTests(unittest.TestCase):

    def test_log_len_and_str(self):
        world = World(TABLE, ("ann", "bob"))
        self.assertTrue(same((world.log(), len(world)), ((OPENING,), 0)))
        opening = "world ann,bob / items room,time / row big,mon / row big,tue / row small,mon / row small,wed"
        self.assertEqual(str(world), opening)
        rows = (("issue", "ann", (SMALL, TUE)), ("arrive", 0), ("arrive", 0), ("narrow", "ann", 0, (SMALL,)),
                ("news", None, "bob"))
        for k, row in enumerate(rows):
            world.go(row)
            self.assertTrue(same((world.log(), len(world)), ((OPENING, *rows[:k + 1]), k + 1)))
        self.assertEqual(str(world), opening + " / issue ann room:small,time:tue / arrive 0 / arrive 0 / "
                                               "narrow ann 0 room:small / news - bob")
        # What is refused is not in the log.
        with self.assertRaises(InvalidStep):
            world.return_coin("bob", 0)
        self.assertEqual(len(world), 5)

    def test_an_empty_world_is_a_world(self):
        self.assertEqual(len(world_of()), 0)
        self.assertEqual(rows_left(world_of()), TABLE[1])
        self.assertEqual(replayed((OPENING,)), world_of())


class UndoTests(unittest.TestCase):

    def test_back_to_the_beginning(self):
        for rows in (ANSWERED, BUSY, CHOSEN):
            world, before = world_of(), []
            for row in rows:
                before.append(asked(world))
                world.go(row)
            for k in reversed(range(len(rows))):
                self.assertTrue(same(world.undo(), rows[k]))
                self.assertTrue(same(asked(world), before[k]))
            self.assertEqual(world, world_of())
            self.nothing(world)
            world.do_all(rows)
            self.assertEqual(world, world_of(*rows))

    def nothing(self, world):
        before = asked(world)
        with self.assertRaises(NothingToUndo) as caught:
            world.undo()
        self.assertTrue(same(caught.exception.steps, 0))
        self.assertTrue(same(asked(world), before))

    def test_nothing_to_undo(self):
        world = world_of()
        for k in range(3):
            self.nothing(world)
            self.assertEqual(world.counts(), (k + 2, k + 2))

    def test_another_way_after_undo(self):
        world = world_of(("issue", "ann", (BIG,)), ("arrive", 0), ("start", "ann", ROOM), ("answer", 0, "no", (0,)))
        self.assertEqual(world.undo(), ("answer", 0, "no", (0,)))
        self.assertEqual((world.office_now("ann"), world.letters_now()), (((), ((0, (BIG,)),), False), ()))
        world.return_coin("ann", 0)
        self.assertEqual(world.places_now(), ((0, ("letter", 1)),))
        self.assertEqual((world.undo(), world.undo(), world.undo()), (
            ("return", "ann", 0), ("start", "ann", ROOM), ("arrive", 0)))
        self.assertEqual(world.places_now(), ((0, ("letter", 0)),))
        self.assertIs(world.let_arrive(0), True)
        self.assertIs(world.let_arrive(0), False)
        self.assertEqual(world.undo(), ("arrive", 0))
        self.assertIs(world.let_arrive(0), False)

    def test_undoing_a_call_and_a_choice(self):
        world = world_of(("issue", "ann", (BIG,)), ("arrive", 0), ("call",))
        with self.assertRaises(InvalidStep):
            world.issue_coin("ann", ())
        self.assertEqual(world.undo(), ("call",))
        self.assertEqual(world.issue_coin("ann", ()), 1)
        world = world_of(("call",), ("choose", ("big", "mon")), ("arrive", 2))
        self.assertEqual((world.undo(), world.undo()), (("arrive", 2), ("choose", ("big", "mon"))))
        world.choose_row(("small", "wed"))
        self.assertEqual(world.letters_now()[-1], (3, ("choice", "bob", ("small", "wed"))))


class ManyRowsTests(unittest.TestCase):

    def test_lists_and_tuples(self):
        for kind in (list, tuple):
            for rows in (ANSWERED, BUSY, CHOSEN, ()):
                for keep in (False, True):
                    world, given = World(TABLE, ("ann", "bob")), kind(rows)
                    self.assertTrue(same(world.do_all(given, keep=keep), len(rows)))
                    self.assertTrue(same(given, kind(rows)))
                    self.assertEqual((world.log()[1:], world.counts()), (rows, (1, 1)))
        self.assertEqual(World(TABLE, ("ann",)).do_all(rows=[("call",)]), 1)

    def test_rows_that_fail(self):
        rows = (("issue", "ann", (SMALL,)), ("arrive", 0), ("start", "ann", PROGRAM))
        for bad, reason in ((None, "shape"), (7, "shape"), (["call"], "shape"), ((), "shape"), (True, "shape"),
                            (("arrive", 9), "letter"), (("pass", "bob", "bob", 0), "same"),
                            (("return", "eve", 0), "office")):
            for k in range(4):
                self.fails((*rows[:k], bad, *rows[k:]), k, reason)
        # What the bank and the offices refuse.
        for bad, reason in ((("answer", 1, "no", (0,)), "coin"), (("issue", "ann", (BIG,)), "unsafe"),
                            (("choose", ("big", "mon")), "open"), (("narrow", "ann", 0, (BIG,)), "scope")):
            self.fails((*rows, bad, bad), 3, reason)

    def fails(self, rows, k, reason):
        """Row k fails; with and without keep, in a list and in a tuple."""
        for keep in (False, True):
            for kind in (list, tuple):
                self.fails_as(kind(rows), keep, k, reason)

    def fails_as(self, rows, keep, k, reason):
        world = world_of(("start", "bob", STOP))
        first = replayed(world.log())
        kept = copied(rows)
        with self.assertRaises(InvalidStep) as caught:
            world.do_all(rows, keep=keep) if keep else world.do_all(rows)
        self.assertIs(caught.exception.step, rows[k])
        self.assertEqual(caught.exception.reason, reason)
        self.assertTrue(same(rows, kept))
        self.assertEqual(world.counts(), (2, 2))
        if keep:
            first.do_all(rows[:k])
        self.assertTrue(same(asked(world), asked(first)))
        self.assertEqual(world, first)

    def test_unknown_pairs(self):
        rows = [("issue", "ann", ()), ("issue", "bob", (BIG, UNKNOWN))]
        for keep in (False, True):
            world = world_of(("start", "ann", STOP))
            with self.assertRaises(UnknownPair) as caught:
                world.do_all(rows, keep=keep)
            self.assertIs(caught.exception.pair, UNKNOWN)
            self.assertEqual((len(world), world.counts()), (2 if keep else 1, (2, 2)))
            self.assertEqual(world, world_of(("start", "ann", STOP), *rows[:keep]))

    def test_keep_is_passed_by_name(self):
        with self.assertRaises(TypeError):
            World(TABLE, ("ann",)).do_all([], True)

    def test_the_world_goes_on_after_a_failure(self):
        world = world_of(*ANSWERED)
        with self.assertRaises(InvalidStep):
            world.do_all([("arrive", 1), ("answer", 0, "no", ()), ("call",), ("call",)])
        self.assertEqual(world, world_of(*ANSWERED))
        self.assertEqual(world.letters_now(), ((1, ("report", 0, SMALL)),))
        self.assertIs(world.let_arrive(1), True)
        self.assertEqual(world.undo(), ("arrive", 1))


class CountTests(unittest.TestCase):

    def test_counts(self):
        world = World(TABLE, ("ann", "bob"))
        expected = 0

        def told(count):
            self.assertTrue(same(world.counts(), (count, count)))

        told(0)
        for operation, arguments, named, error in (
                (world.issue_coin, ("ann", (BIG,)), {}, None), (world.let_arrive, (0,), {}, None),
                (world.let_arrive, (0,), {}, None), (world.go, (("start", "ann", ROOM),), {}, None),
                (world.go, (None,), {}, InvalidStep), (world.issue_coin, ("ann", (UNKNOWN,)), {}, UnknownPair),
                (world.undo, (), {}, None), (world.undo, (), {}, None),
                (world.do_all, ([("arrive", 0), ("news", None, "bob")],), {}, None),
                (world.do_all, ([("arrive", 0), None],), {}, InvalidStep),
                (world.do_all, ([("arrive", 0), None],), {"keep": True}, InvalidStep),
                (world.do_all, ([],), {}, None), (world.choose_row, (("big", "mon"),), {}, InvalidStep),
                (world.call_all, (), {}, None), (world.call_all, (), {}, InvalidStep)):
            if error is None:
                operation(*arguments, **named)
            else:
                with self.assertRaises(error):
                    operation(*arguments, **named)
            expected += 1
            told(expected)
        asked(world)
        told(expected)
        for k in range(len(world)):
            world.undo()
        told(expected + k + 1)
        with self.assertRaises(NothingToUndo):
            world.undo()
        told(expected + k + 2)


class ReplayTests(unittest.TestCase):

    def test_replayed(self):
        for rows in ((), ANSWERED, BUSY, CHOSEN):
            world = world_of(*rows)
            for log in (world.log(), copied(world.log())):
                kept = copied(log)
                again = replayed(log)
                self.assertIs(type(again), World)
                self.assertTrue(same(log, kept))
                self.assertEqual(again, world)
                self.assertIsNot(again, world)
                self.assertTrue(same(asked(again), asked(world)))
                self.assertIs(is_log(log), True)
            # They go on alike, each on its own.
            again = replayed(log=world.log())
            for row in (("news", None, "bob"), ("start", "bob", ROOM), ("issue", "ann", ()), ("arrive", 0)):
                found = []
                for other in (world, again):
                    before = asked(other)
                    try:
                        found.append(other.go(row))
                    except InvalidStep as error:
                        found.append((error.step, error.reason))
                        self.assertTrue(same(asked(other), before))
                self.assertTrue(same(found[0], found[1]))
                self.assertTrue(same(asked(again), asked(world)))
            again.call_all() if not again.bank_now()[3] else again.undo()
            self.assertNotEqual(again, world)

    def test_the_first_error(self):
        for rows, bad, error in (
                ((("arrive", 0),), 0, "letter"), ((("issue", "ann", (BIG,)), ("issue", "ann", (SMALL,)),
                                                   ("arrive", 7)), 1, "unsafe"),
                ((("start", "ann", STOP), ("answer", 0, "yes", ())), 1, "run"), ((("call",), ("call",)), 1, "called"),
                ((("start", "eve", STOP),), 0, "office"), ((("news", "ann", "ann"), ("call",)), 0, "same")):
            log = (OPENING, *rows)
            self.assertIs(is_log(log), True)
            with self.assertRaises(InvalidStep) as caught:
                replayed(log)
            self.assertIs(caught.exception.step, rows[bad])
            self.assertEqual(caught.exception.reason, error)
        with self.assertRaises(UnknownPair) as caught:
            replayed((OPENING, ("issue", "ann", ()), ("issue", "ann", (BIG, UNKNOWN)), ("arrive", 7)))
        self.assertIs(caught.exception.pair, UNKNOWN)

    def test_logs(self):
        for table in (*SMALL_TABLES, full_table(4, 5, 24)):
            for names in (("ann",), ("ann", "bob", "eve"), ("a", "b", "c", "d", "e")):
                self.assertIs(is_log((("world", table, names),)), True)
        for row in (("issue", "eve", (UNKNOWN, ("zoo", "x"))), ("start", "eve", PROGRAM),
                    ("answer", 7, "no", (7, 7, 3)),
                    ("pass", "ann", "ann", 10 ** 59), ("return", "eve", 7), ("narrow", "eve", 9, (UNKNOWN,)),
                    ("news", None, "eve"), ("news", "eve", "eve"), ("arrive", 99), ("call",), ("choose", ()),
                    ("choose", ("x", "y", "z"))):
            # Rows of the forms are enough, whether they can be done or not.
            self.assertIs(is_log((OPENING, row)), True)
            self.assertIs(is_log(thing=(OPENING, row, row, row)), True)
            self.assertIs(is_log((OPENING, row, None)), False)
            self.assertIs(is_log((row, OPENING)), False)
            self.assertIs(is_log([OPENING, row]), False)
            self.assertIs(is_log((OPENING, list(row))), False)
            self.assertIs(is_log((OPENING, (*row, 0))), False)
            self.assertIs(is_log((OPENING, row[:-1])), False)

    def test_no_logs(self):
        for thing in ((), [], [OPENING], OPENING, (OPENING, OPENING), ((),), (("world", TABLE),), (list(OPENING),),
                      ((*OPENING, ()),), (("World", TABLE, ("ann",)),), (("world", TABLE, ()),),
                      (("world", TABLE, ["ann"]),),
                      (("world", TABLE, ("bob", "ann")),), (("world", TABLE, ("ann", "ann")),),
                      (("world", TABLE, "ann"),),
                      (("world", TABLE, ("Ann",)),), (("world", TABLE, (None,)),), (("world", None, ("ann",)),),
                      (("world", list(TABLE), ("ann",)),), (("world", (TABLE[0], ()), ("ann",)),),
                      (("world", (TABLE[0], TABLE[1][:2]), ("ann",)),),
                      (("world", (TABLE[0], TABLE[1][::-1]), ("ann",)),),
                      (("world", ((), ((),)), ("ann",)),), (OPENING, ("start", "ann", ("ask", "year", (), STOP, STOP))),
                      (OPENING, ("start", "ann", ("ask", "room", ("mon",), STOP, STOP))),
                      (OPENING, ("start", "ann", None)),
                      (OPENING, ("answer", 0, "maybe", ())), (OPENING, ("arrive", True)), (OPENING, ("arrive", -1)),
                      world_of(), (world_of(),), (OPENING, world_of())):
            self.assertIs(is_log(thing), False)

    def test_any_value(self):
        for thing in (*ANY_VALUES, nested(tuple, 30), nested(list, 30)):
            for log in (thing, (thing,), (thing, ("call",)), (OPENING, thing), ((thing, TABLE, ("ann",)),),
                        (OPENING, ("issue", "ann", thing, ())), (OPENING, (thing,)),
                        (OPENING, ("start", thing, thing))):
                self.assertIs(is_log(log), False)
            self.assertIs(is_log((("world", thing, ("ann",)),)), thing == COIN_TOSS)
            self.assertIs(is_log((("world", TABLE, thing),)), thing in (("a",), ("a", "b"), ("a", "b", "c"))
                          and type(thing) is tuple)
            self.assertIs(is_log((OPENING, ("start", "ann", thing))), is_program_of(TABLE, thing))

    def test_changed_logs(self):
        """A log whose elements are changed is one exactly if replaying does not raise "shape"."""
        for thing in variants((OPENING, ("start", "ann", PROGRAM), ("answer", 0, "yes", (0,)), ("news", None, "bob"))):
            if type(thing) is tuple and thing[:1] == (OPENING,) and type(thing[0][2]) is tuple:
                world, has_form = World(TABLE, ("ann", "bob")), True
                for row in thing[1:]:
                    try:
                        world.go(row)
                    except (InvalidStep, UnknownPair) as error:
                        has_form = has_form and getattr(error, "reason", None) != "shape"
                self.assertIs(is_log(thing), has_form, thing)
            elif type(thing) is not tuple or type(thing[:1]) is tuple and thing[:1] in ((), (None,)):
                self.assertIs(is_log(thing), False)


if __name__ == "__main__":
    unittest.main()
