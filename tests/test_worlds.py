"""Points 66 to 71: worlds, their rows and letters, errors of rows in order, places of coins, queries."""

import itertools
import unittest

from chosenlast.errors import InvalidStep, UnknownName, UnknownPair
from chosenlast.reaching import outputs_open
from chosenlast.rowreadings import read_row
from chosenlast.worlds import World
from tests.values import (
    ANY_VALUES, COIN_TOSS, PROGRAM, TABLE, copied, nested, same, subsets, variants)

BIG, SMALL = ("room", "big"), ("room", "small")
MON, TUE, WED = ("time", "mon"), ("time", "tue"), ("time", "wed")
ALL_PAIRS = (BIG, SMALL, MON, TUE, WED)
ODD = ("year", "old")
UNKNOWN = ("room", "mon")
STOP = ("stop",)
ROOM = ("ask", "room", ("big",), ("say", "large", STOP), ("say", "tiny", ("say", "low", STOP)))
TIME = ("ask", "time", ("wed",), ("say", "late", STOP), STOP)
TWICE = ("say", "hi", ("ask", "room", ("big",), ROOM, ROOM))


def world_of(*rows, table=TABLE, names=("ann", "bob")):
    world = World(table, names)
    world.do_all(rows)
    return world


def asked(world):
    """Return what all queries return but counts."""
    runs = range(len(world.runs_now()))
    return (world.table_now(), world.bank_now(), [world.office_now(name) for name in world.log()[0][2]],
            world.letters_now(), world.runs_now(), world.places_now(), world.widest_now(),
            [(world.answers_now(run), world.outputs_now(run)) for run in runs], world.log(), len(world), str(world))


class WorldTestCase(unittest.TestCase):

    def refused(self, reason, world, row):
        """The row is refused for this reason, by go and by its method, and changes nothing but the counts."""
        before, kept, counts = asked(world), copied(row), world.counts()
        with self.assertRaises(InvalidStep) as caught:
            world.go(row)
        self.assertIs(caught.exception.step, row)
        self.assertTrue(same(caught.exception.reason, reason), (row, caught.exception.reason))
        self.assertTrue(same(row, kept))
        self.assertTrue(same(asked(world), before))
        self.assertEqual(world.counts(), (counts[0] + 1, counts[1] + 1))
        self.assertIsNot(world, None)

    def unknown(self, pair, world, row):
        before = asked(world)
        with self.assertRaises(UnknownPair) as caught:
            world.go(row)
        self.assertIs(caught.exception.pair, pair)
        self.assertTrue(same(asked(world), before))


class FirstWorldTests(WorldTestCase):

    def test_at_first(self):
        for names in (("ann",), ("ann", "bob"), ("a", "b", "zzzzzzzz")):
            world = World(TABLE, names)
            self.assertTrue(same(world.table_now(), TABLE))
            self.assertTrue(same(world.bank_now(), ((), (), 0, False, None)))
            for name in names:
                self.assertTrue(same(world.office_now(name), ((), (), False)))
            self.assertTrue(same((world.letters_now(), world.runs_now(), world.places_now()), ((), (), ())))
            self.assertTrue(same(world.widest_now(), ALL_PAIRS))
            self.assertTrue(same(world.log(), (("world", TABLE, names),)))
            self.assertTrue(same((len(world), world.counts()), (0, (0, 0))))
        self.assertTrue(same(world_of(table=COIN_TOSS).widest_now(), (("a", "x"), ("a", "y"))))

    def test_examples(self):
        world = World(TABLE, ("ann", "bob"))
        number = world.issue_coin("ann", (SMALL,))
        first = world.let_arrive(0)
        run = world.start_run("ann", PROGRAM)
        found = [number, first, world.let_arrive(0), run, world.give_answer(run, "yes", (0,))]
        self.assertTrue(same(found, [0, True, False, 0, ("large",)]))
        with self.assertRaises(InvalidStep) as caught:
            World(TABLE, ("ann",)).pass_coin("ann", "ann", 0)
        self.assertTrue(same((caught.exception.step, caught.exception.reason), (("pass", "ann", "ann", 0), "same")))
        world = World(TABLE, ("ann", "bob"))
        done = world.do_all([("issue", "ann", (SMALL,)), ("arrive", 0), ("start", "ann", PROGRAM),
                             ("answer", 0, "yes", (0,))])
        self.assertEqual(done, 4)
        self.assertTrue(same([world.letters_now(), world.places_now(), world.widest_now()], [
            ((1, ("report", 0, SMALL)),), ((0, ("used", SMALL)),), (SMALL, MON, TUE, WED)]))
        world = World(TABLE, ("ann",))
        world.do_all([("call",), ("arrive", 0), ("choose", ("small", "wed")), ("arrive", 1), ("start", "ann", PROGRAM)])
        self.assertTrue(same([world.answers_now(0), world.outputs_now(0)], [("no",), ((),)]))

    def test_each_method_does_its_row(self):
        """And returns what go returns, of exactly that kind; by position and by name."""
        opening = (("issue", "ann", (BIG, MON)), ("arrive", 0), ("issue", "ann", (TUE,)), ("arrive", 1),
                   ("start", "ann", TWICE))
        for row, result, method, named in (
                (("issue", "bob", (MON,)), 2, "issue_coin", {"office": "bob", "scope": (MON,)}),
                (("start", "bob", ROOM), 1, "start_run", {"office": "bob", "program": ROOM}),
                (("answer", 0, "no", (0,)), (), "give_answer", {"run": 0, "answer": "no", "numbers": (0,)}),
                (("pass", "ann", "bob", 1), None, "pass_coin", {"office": "ann", "other": "bob", "number": 1}),
                (("return", "ann", 1), None, "return_coin", {"office": "ann", "number": 1}),
                (("narrow", "ann", 0, ()), None, "narrow_coin", {"office": "ann", "number": 0, "scope": ()}),
                (("news", "bob", "ann"), None, "send_news", {"sender": "bob", "office": "ann"}),
                (("news", None, "ann"), None, "send_news", {"sender": None, "office": "ann"}),
                (("arrive", 1), False, "let_arrive", {"letter": 1}),
                (("call",), None, "call_all", {})):
            worlds = [world_of(*opening) for _ in range(4)]
            found = [worlds[0].go(row), worlds[1].go(row=row), getattr(worlds[2], method)(*row[1:]),
                     getattr(worlds[3], method)(**named)]
            self.assertTrue(same(found, [result] * 4), (row, found))
            for world in worlds:
                self.assertTrue(same(asked(world), asked(worlds[0])))
                self.assertTrue(same(world.log()[-1], row))
                self.assertEqual(world.counts(), (2, 2))
        world = world_of(("call",))
        self.assertIsNone(world.choose_row(row=("big", "mon")))
        self.assertIsNone(world_of(("call",)).go(("choose", ("big", "mon"))))
        self.assertIsNone(world_of(("call",)).choose_row(("big", "mon")))
        self.assertEqual(world.log()[-1], ("choose", ("big", "mon")))
        self.assertIs(world_of(("call",)).let_arrive(0), True)

    def test_methods_stand_in_the_class(self):
        for name in ("issue_coin", "start_run", "give_answer", "pass_coin", "return_coin", "narrow_coin", "send_news",
                     "let_arrive", "call_all", "choose_row", "go", "table_now", "bank_now", "office_now", "letters_now",
                     "runs_now", "places_now", "widest_now", "answers_now", "outputs_now", "log", "__len__", "__str__",
                     "__eq__", "__ne__", "undo", "do_all", "counts", "__init__"):
            self.assertIn(name, vars(World))
        self.assertEqual(World.__module__, "chosenlast.worlds")

    def test_a_world_copies_what_it_keeps(self):
        rows = [("issue", "ann", (BIG,)), ("arrive", 0)]
        world = World(TABLE, ("ann",))
        world.do_all(rows)
        rows.append(("call",))
        rows[0] = ("call",)
        self.assertEqual(world.log()[1:], (("issue", "ann", (BIG,)), ("arrive", 0)))


class RowTests(WorldTestCase):

    def test_issue(self):
        world = world_of()
        self.assertEqual([world.issue_coin("bob", (BIG,)), world.issue_coin("ann", ()),
                          world.issue_coin("bob", (MON,))],
                         [0, 1, 2])
        self.assertTrue(same(world.bank_now(), ((), ((0, (BIG,)), (1, ()), (2, (MON,))), 3, False, None)))
        self.assertTrue(same(world.letters_now(), (
            (0, ("coin", "bob", (0, (BIG,)))), (1, ("coin", "ann", (1, ()))), (2, ("coin", "bob", (2, (MON,)))))))
        self.assertEqual(world.office_now("bob"), ((), (), False))
        # In any order.
        for letter in (2, 0):
            self.assertIs(world.let_arrive(letter), True)
        self.assertTrue(same(world.office_now("bob"), ((), ((0, (BIG,)), (2, (MON,))), False)))
        self.assertEqual(world.letters_now(), ((1, ("coin", "ann", (1, ()))),))

    def test_issue_is_refused(self):
        world = world_of(("issue", "ann", (BIG,)), ("issue", "bob", (MON,)))
        self.refused("unsafe", world, ("issue", "ann", (SMALL,)))
        self.refused("unsafe", world, ("issue", "bob", (BIG, WED)))
        world.call_all()
        self.refused("called", world, ("issue", "ann", (SMALL,)))
        self.refused("called", world, ("issue", "ann", ()))

    def test_start(self):
        world = world_of(("start", "bob", STOP), ("start", "ann", TWICE), ("start", "ann", TWICE))
        self.assertEqual(world.start_run("bob", ("say", "a", ("say", "b", STOP))), 3)
        self.assertTrue(same(world.runs_now(), (
            ("bob", STOP, (), ()), ("ann", TWICE, (), ("hi",)), ("ann", TWICE, (), ("hi",)),
            ("bob", ("say", "a", ("say", "b", STOP)), (), ("a", "b")))))
        self.assertEqual(world.letters_now(), ())

    def test_answer(self):
        world = world_of(("issue", "ann", (SMALL, TUE)), ("arrive", 0), ("issue", "ann", (MON,)), ("arrive", 1),
                         ("start", "ann", TWICE), ("start", "ann", TIME), ("start", "bob", ROOM))
        self.assertTrue(same(world.give_answer(0, "yes", (0,)), ()))
        self.assertTrue(same(world.runs_now()[0], ("ann", TWICE, ("yes",), ("hi",))))
        self.assertTrue(same(world.office_now("ann"), ((SMALL,), ((1, (MON,)),), False)))
        self.assertTrue(same(world.letters_now(), ((2, ("report", 0, SMALL)),)))
        self.assertEqual(world.bank_now()[1], ((0, (SMALL, TUE)), (1, (MON,))))
        # The answer is forced now.
        self.assertTrue(same(world.give_answer(0, "yes", ()), ("large",)))
        self.assertTrue(same(world.runs_now()[0], ("ann", TWICE, ("yes", "yes"), ("hi", "large"))))
        self.assertEqual(world.letters_now(), ((2, ("report", 0, SMALL)),))
        self.assertIs(world.let_arrive(2), True)
        self.assertTrue(same(world.bank_now(), ((SMALL,), ((1, (MON,)),), 2, False, None)))
        # The other runs go on as they were.
        self.assertEqual(world.runs_now()[1:], (("ann", TIME, (), ()), ("bob", ROOM, (), ())))

    def test_reports_in_the_order_of_the_pairs(self):
        for numbers in ((0, 1), (1, 0)):
            world = world_of(("issue", "ann", (MON, TUE)), ("issue", "ann", (MON, TUE)), ("arrive", 1), ("arrive", 0),
                             ("start", "ann", TIME))
            self.assertEqual(world.give_answer(0, "yes", numbers), ("late",))
            self.assertTrue(same(world.letters_now(), (
                (2, ("report", numbers[0], MON)), (3, ("report", numbers[1], TUE)))))
            # A report alone, the later one first.
            world.let_arrive(3)
            self.assertEqual(world.bank_now(), ((TUE,), ((numbers[0], (MON, TUE)),), 2, False, None))
            world.let_arrive(2)
            self.assertEqual(world.bank_now(), ((MON, TUE), (), 2, False, None))

    def test_answer_is_refused(self):
        opening = [("issue", "ann", (SMALL, TUE)), ("arrive", 0), ("issue", "ann", (MON,)), ("arrive", 1),
                   ("start", "ann", ROOM), ("start", "bob", ROOM), ("start", "ann", STOP)]
        world = world_of(*opening)
        for numbers in ((), (0, 1), (0, 0)):
            self.refused("many", world, ("answer", 0, "yes", numbers))
        for numbers in ((1,), (2,), (10 ** 59,)):
            self.refused("coin", world, ("answer", 0, "yes", numbers))
        self.refused("coin", world, ("answer", 1, "yes", (0,)))
        for run in (2, 3, 10 ** 59):
            self.refused("run", world, ("answer", run, "yes", (0,)))
        world.give_answer(0, "yes", (0,))
        self.refused("run", world, ("answer", 0, "yes", ()))
        world.start_run("ann", ROOM)
        self.refused("none", world, ("answer", 3, "no", (7, 7)))
        world.do_all((("call",), ("arrive", 3), ("arrive", 4)))
        self.refused("called", world, ("answer", 1, "no", (7, 7)))
        self.assertEqual(world.give_answer(3, "yes", ()), ("large",))

    def test_pass(self):
        world = world_of(("issue", "ann", (BIG,)), ("arrive", 0), ("pass", "ann", "bob", 0))
        self.assertTrue(same(world.letters_now(), ((1, ("coin", "bob", (0, (BIG,)))),)))
        self.assertTrue(same(world.office_now("ann"), ((), (), False)))
        for number in (0, 1):
            self.refused("coin", world, ("pass", "ann", "bob", number))
        world.let_arrive(1)
        self.assertEqual(world.office_now("bob")[1], ((0, (BIG,)),))
        world.pass_coin("bob", "ann", 0)
        world.let_arrive(2)
        self.assertEqual(world.office_now("ann")[1], ((0, (BIG,)),))
        self.assertEqual(world.bank_now(), ((), ((0, (BIG,)),), 1, False, None))

    def test_return(self):
        world = world_of(("issue", "ann", (BIG,)), ("arrive", 0), ("return", "ann", 0))
        self.assertTrue(same(world.letters_now(), ((1, ("back", (0, (BIG,)))),)))
        self.assertEqual(world.bank_now()[1], ((0, (BIG,)),))
        self.refused("coin", world, ("return", "ann", 0))
        world.let_arrive(1)
        self.assertTrue(same(world.bank_now(), ((), (), 1, False, None)))
        # It is never used again: the next one has a number of its own.
        self.assertEqual(world.issue_coin("ann", (BIG,)), 1)

    def test_narrow(self):
        world = world_of(("issue", "ann", (BIG, MON, TUE)), ("arrive", 0), ("narrow", "ann", 0, (BIG, TUE)))
        self.assertEqual(world.office_now("ann")[1], ((0, (BIG, TUE)),))
        # The bank does not know.
        self.assertEqual(world.bank_now()[1], ((0, (BIG, MON, TUE)),))
        self.assertEqual(world.letters_now(), ())
        self.refused("scope", world, ("narrow", "ann", 0, (MON,)))
        for name, number in (("ann", 1), ("bob", 0)):
            self.refused("coin", world, ("narrow", name, number, ()))
        world.do_all((("narrow", "ann", 0, (BIG, TUE)), ("narrow", "ann", 0, (TUE,)), ("pass", "ann", "bob", 0)))
        self.assertEqual(world.letters_now(), ((1, ("coin", "bob", (0, (TUE,)))),))
        world.do_all((("arrive", 1), ("narrow", "bob", 0, ()), ("return", "bob", 0)))
        self.assertEqual(world.letters_now(), ((2, ("back", (0, ()))),))
        self.assertEqual(world.bank_now()[1], ((0, (BIG, MON, TUE)),))
        world.let_arrive(2)
        self.assertEqual(world.bank_now()[1], ())

    def test_narrowed_coins_pay_for_what_they_still_have(self):
        world = world_of(("issue", "ann", (SMALL, TUE)), ("arrive", 0), ("narrow", "ann", 0, (TUE,)),
                         ("start", "ann", ROOM))
        self.assertEqual(world.answers_now(0), ())
        self.refused("coin", world, ("answer", 0, "yes", (0,)))

    def test_news(self):
        world = world_of(("issue", "ann", (SMALL,)), ("arrive", 0), ("start", "ann", ROOM), ("answer", 0, "yes", (0,)))
        world.do_all((("news", None, "bob"), ("news", "ann", "bob"), ("arrive", 1), ("news", None, "bob")))
        self.assertTrue(same(world.letters_now(), (
            (2, ("news", "bob", ())), (3, ("news", "bob", (SMALL,))), (4, ("news", "bob", (SMALL,))))))
        world.let_arrive(2)
        self.assertEqual(world.office_now("bob"), ((), (), False))
        world.let_arrive(4)
        self.assertEqual(world.office_now("bob"), ((SMALL,), (), False))
        # The pairs are those at the time of sending.
        world.do_all((("news", "bob", "ann"), ("issue", "bob", (MON,)), ("arrive", 6), ("start", "bob", TIME)))
        self.assertEqual(world.give_answer(1, "no", ()), ())
        self.assertEqual(world.office_now("bob")[0], (SMALL, WED))
        self.assertEqual(world.letters_now()[-1], (5, ("news", "ann", (SMALL,))))

    def test_news_of_what_was_heard(self):
        """All struck pairs of the sender are news, also those that it heard and those of the choice."""
        world = world_of(("call",), ("choose", ("small", "wed")), ("news", "ann", "bob"), ("arrive", 2),
                         ("news", "ann", "bob"))
        self.assertEqual(world.letters_now()[-2:], (
            (4, ("news", "bob", ())), (5, ("news", "bob", (BIG, MON, TUE)))))
        world.let_arrive(5)
        self.assertEqual(world.office_now("bob"), ((BIG, MON, TUE), (), False))

    def test_call(self):
        world = world_of(("issue", "ann", (BIG,)), ("issue", "ann", (MON,)), ("issue", "bob", ()), ("arrive", 1),
                         ("arrive", 0))
        self.assertIsNone(world.call_all())
        self.assertTrue(same(world.bank_now(), ((), ((0, (BIG,)), (1, (MON,)), (2, ())), 3, True, None)))
        self.assertTrue(same(world.letters_now(), (
            (2, ("coin", "bob", (2, ()))), (3, ("call", "ann")), (4, ("call", "bob")))))
        self.refused("called", world, ("call",))
        # Coins go back in ascending order of their numbers.
        world.let_arrive(3)
        self.assertTrue(same(world.office_now("ann"), ((), (), True)))
        self.assertTrue(same(world.letters_now()[2:], ((5, ("back", (0, (BIG,)))), (6, ("back", (1, (MON,)))))))
        # A coin that arrives after the call goes back at once.
        world.let_arrive(4)
        self.assertIs(world.let_arrive(2), True)
        self.assertTrue(same(world.office_now("bob"), ((), (), True)))
        self.assertEqual(world.letters_now()[-1], (7, ("back", (2, ()))))
        self.refused("outside", world, ("choose", ("big", "mon")))

    def test_a_report_after_the_call(self):
        world = world_of(("issue", "ann", (SMALL,)), ("arrive", 0), ("start", "ann", ROOM), ("answer", 0, "yes", (0,)),
                         ("call",), ("arrive", 2), ("arrive", 3))
        self.refused("outside", world, ("choose", ("big", "mon")))
        self.assertIs(world.let_arrive(1), True)
        self.assertTrue(same(world.bank_now(), ((SMALL,), (), 1, True, None)))
        self.refused("row", world, ("choose", ("small", "wed")))
        self.refused("row", world, ("choose", ("big", "wed")))
        self.refused("row", world, ("choose", ()))
        world.choose_row(("big", "tue"))
        self.refused("chosen", world, ("choose", ("big", "mon")))

    def test_answers_before_the_call_arrives(self):
        """An office pays until it is called itself."""
        world = world_of(("issue", "ann", (SMALL,)), ("arrive", 0), ("start", "ann", ROOM), ("call",))
        self.assertEqual(world.give_answer(0, "yes", (0,)), ("large",))
        self.assertEqual(world.letters_now()[-1], (3, ("report", 0, SMALL)))

    def test_choose(self):
        world = world_of(("call",))
        self.assertIsNone(world.choose_row(("small", "mon")))
        self.assertTrue(same(world.bank_now(), ((), (), 0, True, ("small", "mon"))))
        self.assertTrue(same(world.letters_now(), (
            (0, ("call", "ann")), (1, ("call", "bob")),
            (2, ("choice", "ann", ("small", "mon"))), (3, ("choice", "bob", ("small", "mon"))))))
        # The choice may arrive before the call.
        world.let_arrive(3)
        self.assertTrue(same(world.office_now("bob"), ((BIG, TUE, WED), (), False)))
        world.let_arrive(1)
        self.assertTrue(same(world.office_now("bob"), ((BIG, TUE, WED), (), True)))
        self.assertEqual(len(world.letters_now()), 2)
        self.refused("open", world_of(), ("choose", ("big", "mon")))
        self.refused("open", world_of(("issue", "ann", ())), ("choose", ("big", "wed")))

    def test_later_arrivals(self):
        """They return False and change nothing but the log."""
        world = world_of(("issue", "ann", (SMALL,)), ("arrive", 0), ("start", "ann", ROOM), ("answer", 0, "yes", (0,)),
                         ("arrive", 1), ("issue", "ann", (MON, TUE)), ("arrive", 2), ("return", "ann", 1),
                         ("arrive", 3),
                         ("news", None, "bob"), ("arrive", 4), ("call",), ("arrive", 5), ("arrive", 6),
                         ("choose", ("big", "tue")), ("arrive", 7))
        for k, letter in enumerate((0, 1, 2, 3, 4, 5, 6, 7, 0, 7)):
            before = asked(world)
            self.assertIs(world.let_arrive(letter), False)
            self.assertTrue(same(asked(world)[:8], before[:8]))
            self.assertTrue(same(world.log(), (*before[8], ("arrive", letter))))
            self.assertEqual(len(world), 17 + k)

    def test_letters_in_all_orders(self):
        """Whatever the order in which they arrive, the same is known in the end."""
        opening = (("issue", "ann", (SMALL,)), ("arrive", 0), ("start", "ann", ROOM), ("issue", "ann", (TUE,)),
                   ("answer", 0, "yes", (0,)), ("news", "ann", "bob"), ("news", None, "bob"))
        ends = []
        for order in itertools.permutations((1, 2, 3, 4)):
            world = world_of(*opening, *(("arrive", letter) for letter in order))
            ends.append((world.bank_now(), world.office_now("ann"), world.office_now("bob"), world.letters_now()))
        self.assertEqual(ends, [ends[0]] * 24)
        self.assertEqual(ends[0], (((SMALL,), ((1, (TUE,)),), 2, False, None), ((SMALL,), ((1, (TUE,)),), False),
                                   ((SMALL,), (), False), ()))


class ErrorTests(WorldTestCase):
    """Point 69: what is stated first is raised first."""

    def test_any_value(self):
        world = world_of(("issue", "ann", (BIG,)), ("arrive", 0), ("start", "ann", ROOM))
        for thing in (*ANY_VALUES, nested(tuple, 30), nested(list, 30)):
            self.refused("shape", world, thing)
            for row in ((thing,), ("call", thing), ("arrive", 0, thing), (thing, "ann", (BIG,)),
                        ("choose", "x", thing)):
                if row != ("call", "call"):
                    self.refused("shape", world, row)

    def test_worlds_are_no_rows(self):
        world = world_of()
        with self.assertRaises(InvalidStep) as caught:
            world.go(world)
        self.assertIs(caught.exception.step, world)
        self.assertEqual(caught.exception.reason, "shape")
        for row in (("arrive", world), ("choose", world), (world,), ("issue", "ann", world), [world]):
            with self.assertRaises(InvalidStep) as caught:
                world.go(row)
            self.assertIs(caught.exception.step, row)

    def test_shape(self):
        world = world_of(("start", "ann", ROOM))
        for row in (
                (), ("issue",), ("issue", "ann"), ("issue", "ann", (), ()), ["issue", "ann", ()], ("Issue", "ann", ()),
                ("issue", "Ann", ()), ("issue", None, ()), ("issue", "ann", [BIG]), ("issue", "ann", (MON, BIG)),
                ("issue", "ann", (BIG, BIG)), ("issue", "ann", BIG), ("issue", "ann", None), ("issue", "", ()),
                ("start", "ann"), ("start", "ann", ()), ("start", "ann", "stop"), ("start", "ann", ["stop"]),
                ("start", "ann", ("say", "Hi", STOP)), ("start", 0, STOP), ("start", "ann", STOP, STOP),
                ("start", "ann", ("ask", "year", (), STOP, STOP)),
                ("start", "ann", ("ask", "room", ("mon",), STOP, STOP)),
                ("start", "ann", ("ask", "room", ("small", "big"), STOP, STOP)),
                ("start", "ann", ("ask", "room", ["big"], STOP, STOP)), ("start", "ann", ("say", "a", ROOM[:4])),
                ("answer", 0, "maybe", ()), ("answer", 0, "Yes", ()), ("answer", 0, True, ()), ("answer", 0, None, ()),
                ("answer", False, "yes", ()), ("answer", -1, "yes", ()), ("answer", "0", "yes", ()),
                ("answer", 0, "yes"),
                ("answer", 0, "yes", [0]), ("answer", 0, "yes", (True,)), ("answer", 0, "yes", (-1,)),
                ("answer", 0, "yes", 0), ("answer", 0, "yes", None), ("answer", 0, "yes", (0, None)),
                ("pass", "ann", "bob"), ("pass", "ann", 0, "bob"), ("pass", "ann", None, 0), ("pass", None, "bob", 0),
                ("pass", "ann", "bob", True), ("pass", "ann", "bob", -1), ("pass", "ann", "Bob", 0),
                ("return", "ann"), ("return", None, 0), ("return", "ann", "0"), ("return", "ann", False),
                ("narrow", "ann", 0), ("narrow", "ann", 0, [BIG]), ("narrow", "ann", 0, (MON, BIG)),
                ("narrow", "ann", True, ()), ("narrow", "ann", 0, None), ("narrow", 0, "ann", ()),
                ("news", "ann"), ("news", "ann", None), ("news", None, None), ("news", "-", "ann"),
                ("news", False, "ann"),
                ("arrive",), ("arrive", -1), ("arrive", True), ("arrive", None), ("arrive", "0"), ("arrive", (0,)),
                ("call", ()), ("call", None), "call", ["call"], ("calls",), ("choose",), ("choose", None),
                ("choose", "big"), ("choose", ["big", "mon"]), ("choose", ("Big", "mon")), ("choose", ("big", 1)),
                ("choose", "big", "mon"), ("undo",), ("world", TABLE, ("ann",)), ("go", ("call",))):
            self.refused("shape", world, row)

    def test_shape_by_the_methods(self):
        world = world_of(("start", "ann", ROOM))
        for method, arguments, row in (
                ("issue_coin", ("ann", [BIG]), ("issue", "ann", [BIG])),
                ("start_run", ("ann", ()), ("start", "ann", ())),
                ("give_answer", (0, "maybe", ()), ("answer", 0, "maybe", ())),
                ("let_arrive", (True,), ("arrive", True)),
                ("pass_coin", ("ann", "B", 0), ("pass", "ann", "B", 0)), ("return_coin", (1, 1), ("return", 1, 1)),
                ("narrow_coin", ("ann", 0, None), ("narrow", "ann", 0, None)), ("choose_row", ("a",), ("choose", "a")),
                ("send_news", ("ann", None), ("news", "ann", None))):
            before = asked(world)
            with self.assertRaises(InvalidStep) as caught:
                getattr(world, method)(*arguments)
            self.assertTrue(same((caught.exception.step, caught.exception.reason), (row, "shape")))
            self.assertIs(caught.exception.step[-1], arguments[-1])
            self.assertTrue(same(asked(world), before))

    def test_office(self):
        world = world_of(("call",))
        for row in (("issue", "eve", (UNKNOWN,)), ("issue", "an", ()), ("start", "eve", STOP),
                    ("pass", "eve", "ann", 7),
                    ("pass", "ann", "eve", 7), ("pass", "eve", "eve", 7), ("return", "eve", 7),
                    ("narrow", "eve", 7, (UNKNOWN,)), ("news", "eve", "ann"), ("news", "ann", "eve"),
                    ("news", None, "eve"),
                    ("news", "eve", "eve")):
            self.refused("office", world, row)

    def test_run_and_letter(self):
        world = world_of(("start", "ann", STOP), ("issue", "ann", ()))
        for run in (0, 1, 2, 10 ** 59):
            self.refused("run", world, ("answer", run, "yes", (7,)))
        for letter in (1, 2, 10 ** 59):
            self.refused("letter", world, ("arrive", letter))
        self.refused("letter", World(TABLE, ("ann",)), ("arrive", 0))

    def test_same(self):
        world = world_of()
        for name in ("ann", "bob"):
            self.refused("same", world, ("pass", name, name, 0))
            self.refused("same", world, ("news", name, name))

    def test_unknown_pairs(self):
        world = world_of(("issue", "ann", (BIG, MON)), ("arrive", 0))
        for scope, pair in (((UNKNOWN,), UNKNOWN), ((BIG, UNKNOWN, SMALL, ODD), UNKNOWN), ((BIG, SMALL, ODD), ODD)):
            self.unknown(pair, world, ("issue", "ann", scope))
            # Before the number of the coin and its scope.
            self.unknown(pair, world, ("narrow", "ann", 0, scope))
            self.unknown(pair, world, ("narrow", "ann", 7, scope))
            self.unknown(pair, world, ("narrow", "bob", 0, scope))
        world.call_all()
        self.unknown(ODD, world, ("issue", "ann", (ODD,)))

    def test_changed_rows(self):
        """Rows that differ in one part are refused or done; what is refused changes nothing."""
        opening = (("issue", "ann", (SMALL, TUE)), ("arrive", 0), ("start", "ann", ROOM))
        world = world_of(*opening)
        before = asked(world)
        for row in (("issue", "ann", (BIG,)), ("answer", 0, "yes", (0,)), ("narrow", "ann", 0, (TUE,)),
                    ("news", None, "bob"),
                    ("pass", "ann", "bob", 0), ("start", "bob", ROOM)):
            for thing in variants(row):
                try:
                    world.go(thing)
                except (InvalidStep, UnknownPair):
                    self.assertTrue(same(asked(world), before))
                else:
                    self.assertEqual(len(world), 4)
                    world.undo()


class QueryTests(WorldTestCase):

    def test_office_now(self):
        world = world_of()
        for name in ("eve", "an", "annn", "room", "zzzzzzzz"):
            with self.assertRaises(UnknownName) as caught:
                world.office_now(name)
            self.assertIs(caught.exception.name, name)
        self.assertEqual(world.office_now(office="ann"), ((), (), False))

    def test_places(self):
        world = world_of(("issue", "ann", (SMALL,)), ("issue", "bob", ()), ("issue", "ann", (TUE,)),
                         ("issue", "bob", ()))
        self.assertTrue(same(world.places_now(), tuple((k, ("letter", k)) for k in range(4))))
        world.do_all((("arrive", 0), ("arrive", 1), ("arrive", 2)))
        self.assertTrue(same(world.places_now(), (
            (0, ("office", "ann")), (1, ("office", "bob")), (2, ("office", "ann")), (3, ("letter", 3)))))
        world.do_all((("start", "ann", ROOM), ("answer", 0, "yes", (0,)), ("pass", "bob", "ann", 1),
                      ("return", "ann", 2)))
        self.assertTrue(same(world.places_now(), (
            (0, ("used", SMALL)), (1, ("letter", 5)), (2, ("letter", 6)), (3, ("letter", 3)))))
        # Whether the report has arrived or not.
        world.do_all((("arrive", 4), ("arrive", 5), ("arrive", 6)))
        self.assertTrue(same(world.places_now(), (
            (0, ("used", SMALL)), (1, ("office", "ann")), (2, ("home",)), (3, ("letter", 3)))))
        world.do_all((("call",), ("arrive", 7), ("arrive", 8), ("arrive", 3)))
        self.assertTrue(same(world.places_now(), (
            (0, ("used", SMALL)), (1, ("letter", 9)), (2, ("home",)), (3, ("letter", 10)))))
        world.do_all((("arrive", 9), ("arrive", 10)))
        self.assertTrue(same(world.places_now(), (
            (0, ("used", SMALL)), (1, ("home",)), (2, ("home",)), (3, ("home",)))))

    def test_widest(self):
        world = world_of(("issue", "ann", (BIG,)))
        self.assertTrue(same(world.widest_now(), (BIG, MON, TUE, WED)))
        world.issue_coin("ann", (MON,))
        self.assertTrue(same(world.widest_now(), (BIG, MON, TUE)))
        # Also after the call, and after the choice.
        world.call_all()
        self.assertTrue(same(world.widest_now(), (BIG, MON, TUE)))
        world.do_all((("arrive", 2), ("arrive", 3), ("arrive", 0), ("arrive", 1), ("arrive", 4), ("arrive", 5)))
        self.assertTrue(same(world.widest_now(), ALL_PAIRS))
        world.choose_row(("big", "tue"))
        self.assertTrue(same(world.widest_now(), ALL_PAIRS))

    def test_answers_and_outputs(self):
        world = world_of(("issue", "ann", (SMALL, TUE)), ("arrive", 0), ("start", "ann", PROGRAM),
                         ("start", "bob", PROGRAM),
                         ("start", "ann", TWICE))
        self.assertTrue(same([world.answers_now(k) for k in range(3)], [("yes",), (), ("yes",)]))
        # With words that are said before, and with those of the whole run.
        self.assertTrue(same([world.outputs_now(k) for k in range(3)], [(), (), (("hi", "large"),)]))
        self.assertEqual(outputs_open(TABLE, (), ((0, (SMALL, TUE)),), PROGRAM), ())
        world.do_all((("issue", "ann", (TUE,)), ("arrive", 1)))
        self.assertTrue(same(world.outputs_now(0), (("large", "early"),)))
        world.give_answer(0, "yes", (0,))
        self.assertTrue(same((world.answers_now(0), world.outputs_now(0)), (("yes",), (("large", "early"),))))
        self.assertTrue(same((world.answers_now(2), world.outputs_now(2)), (("yes",), (("hi", "large"),))))
        world.give_answer(0, "yes", (1,))
        # It has ended: its own output alone.
        self.assertTrue(same((world.answers_now(0), world.outputs_now(0)), ((), (("large", "early"),))))

    def test_several_outputs(self):
        say = {word: ("say", word, STOP) for word in "abc"}
        program = ("ask", "time", ("mon",), say["b"], ("ask", "time", ("tue",), say["a"], say["c"]))
        world = world_of(("issue", "ann", (MON, TUE)), ("issue", "ann", (WED,)), ("arrive", 0), ("arrive", 1),
                         ("start", "ann", program))
        self.assertTrue(same(world.answers_now(0), ("no", "yes")))
        self.assertTrue(same(world.outputs_now(0), (("a",), ("b",))))
        self.assertEqual(world.give_answer(0, "no", (0,)), ())
        self.assertTrue(same((world.answers_now(0), world.outputs_now(0)), (("yes",), (("a",),))))
        self.assertEqual(world.give_answer(0, "yes", (1,)), ("a",))
        self.assertTrue(same((world.answers_now(0), world.outputs_now(0)), ((), (("a",),))))

    def test_runs_without_a_question(self):
        world = world_of(("start", "ann", STOP), ("start", "ann", ("say", "a", ("say", "a", STOP))))
        self.assertTrue(same([world.answers_now(k) for k in range(2)], [(), ()]))
        self.assertTrue(same([world.outputs_now(k) for k in range(2)], [((),), (("a", "a"),)]))

    def test_after_the_choice(self):
        """Before the choice arrives nothing is known; then each run goes one way."""
        world = world_of(("start", "ann", PROGRAM), ("start", "bob", PROGRAM), ("call",), ("choose", ("big", "tue")))
        self.assertTrue(same([(world.answers_now(k), world.outputs_now(k)) for k in range(2)], [((), ())] * 2))
        world.let_arrive(2)
        self.assertTrue(same((world.answers_now(0), world.outputs_now(0)), (("yes",), (("large",),))))
        self.assertTrue(same((world.answers_now(1), world.outputs_now(1)), ((), ())))
        self.assertEqual([world.give_answer(0, "yes", ()), world.give_answer(0, "no", ())], [("large",), ()])
        self.assertTrue(same((world.answers_now(0), world.outputs_now(0)), ((), (("large",),))))
        self.assertEqual(world.letters_now(), ((0, ("call", "ann")), (1, ("call", "bob")),
                                               (3, ("choice", "bob", ("big", "tue")))))

    def test_unknown_runs(self):
        world = world_of(("start", "ann", ROOM))
        for run in (1, 2, 10 ** 59):
            for query in (world.answers_now, world.outputs_now):
                with self.assertRaises(InvalidStep) as caught:
                    query(run)
                self.assertIs(caught.exception.step, run)
                self.assertEqual(caught.exception.reason, "run")
                with self.assertRaises(InvalidStep):
                    query(run=run)
        with self.assertRaises(InvalidStep):
            World(TABLE, ("ann",)).answers_now(0)

    def test_queries_change_nothing_and_are_not_counted(self):
        world = world_of(("issue", "ann", (SMALL,)), ("arrive", 0), ("start", "ann", ROOM), ("answer", 0, "yes", (0,)))
        before, counts = asked(world), world.counts()
        for _ in range(3):
            self.assertTrue(same(asked(world), before))
            with self.assertRaises(UnknownName):
                world.office_now("eve")
            with self.assertRaises(InvalidStep):
                world.answers_now(7)
        self.assertEqual(world.counts(), counts)

    def test_the_widest_scope_is_what_may_be_issued(self):
        for rows in ((), (("issue", "ann", (BIG,)),), (("issue", "ann", (MON, TUE)), ("issue", "bob", (MON, WED)))):
            for scope in subsets(ALL_PAIRS):
                world = world_of(*rows)
                if set(scope) <= set(world.widest_now()):
                    self.assertEqual(world.issue_coin("ann", scope), len(rows))
                else:
                    self.refused("unsafe", world, ("issue", "ann", scope))

    def test_a_deep_program(self):
        """As deep as a line of four thousand characters can write it."""
        row = read_row("start ann " + "say a " * 660 + "stop")
        world = world_of(row)
        again = world_of(read_row("start ann " + "say a " * 660 + "stop"))
        self.assertEqual(len(world.outputs_now(0)[0]), 660)
        self.assertIs(world == again, True)
        self.assertIs(world != again, False)
        row = read_row("start ann " + "ask a x " * 280 + "stop " * 280 + "stop")
        world = world_of(row, table=COIN_TOSS)
        self.assertEqual(len(world.runs_now()), 1)
        self.assertEqual((world.answers_now(0), world.outputs_now(0)), ((), ()))


if __name__ == "__main__":
    unittest.main()
