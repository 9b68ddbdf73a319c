"""Histories of many steps: worlds agree with their model, and guarantees C1 to C7 hold after each row."""

import random
import unittest

from chosenlast.auditchecker import lets_audit
from chosenlast.auditpapers import audit_paper
from chosenlast.bankchecker import lets_bank
from chosenlast.banks import issue
from chosenlast.cases import worst_case
from chosenlast.errors import InvalidStep, UnknownPair
from chosenlast.officechecker import lets_office
from chosenlast.replaying import replayed
from chosenlast.running import run_on
from chosenlast.truths import as_if, rows_left
from chosenlast.worlds import World
from tests import entries, reference
from tests.values import (
    PROGRAM, SMALL_TABLES, TABLE, WIDE, drawn_program, drawn_scope, drawn_table, full_table, limit_program, same)
from tests.worldmodel import Model, Refused, payments

ODD = ("year", "old")


def done(world, row):
    """Return what the world returns, or its error, in the words of the model."""
    try:
        return ("returned", world.go(row))
    except InvalidStep as error:
        assert error.step is row
        return ("InvalidStep", error.reason)
    except UnknownPair as error:
        assert any(error.pair is pair for pair in row[-1])
        return ("UnknownPair", error.pair)


def expected(model, row):
    try:
        return ("returned", model.do(row))
    except Refused as error:
        return error.args


class Drawer:
    """Draws rows that lead somewhere, and now and then others."""

    def __init__(self, draw, table, names, depth=4):
        self.draw, self.table, self.names, self.depth = draw, table, names, depth
        self.pairs = reference.pairs_of(table)
        self.questions = reference.questions(table)

    def row(self, model, ending, widest=None):
        """Return a row; ending is how near the history is to its end, from 0 to 1."""
        draw = self.draw
        waiting = [k for k, came in enumerate(model.came) if not came]
        if waiting and draw.random() < 0.3 + 0.3 * ending:
            return ("arrive", draw.choice(waiting))
        if draw.random() < 0.1 * ending:
            return draw.choice((("call",), ("choose", draw.choice(self.table[1]))))
        if draw.random() < 0.35:
            return self.answer(model)
        return self.other(model, model.widest() if widest is None else widest)

    def answer(self, model):
        draw = self.draw
        going = [run for run in range(len(model.runs)) if model.question(run) is not None]
        if not going or len(model.runs) < 3 and draw.random() < 0.3:
            program = drawn_program(draw, self.questions, self.depth, self.depth)
            return ("start", draw.choice(self.names), program)
        run = draw.choice(going)
        struck, coins, _ = model.office(model.runs[run][0])
        answer = draw.choice(model.answers(run) or ("yes", "no"))
        strikes = reference.strikes(self.table, *model.question(run), answer)
        paid = [pair for pair in strikes if pair not in reference.dead(self.table, struck)]
        ways = payments(coins, paid) or [tuple(dict(coins))]
        return ("answer", run, answer, draw.choice(ways) if draw.random() < 0.95 else (0, 0))

    def other(self, model, widest):
        draw, names = self.draw, self.names
        held = [(name, number) for name in names for number in model.held[name]] or [(names[0], 0)]
        name, number = draw.choice(held)
        scope = drawn_scope(draw, model.held[name].get(number, self.pairs), 2)
        choices = [("issue", draw.choice(names), drawn_scope(draw, widest or self.pairs, 2))] * 5
        choices += [("issue", draw.choice(names), drawn_scope(draw, [*self.pairs, ODD], 3))]
        choices += [("pass", name, draw.choice(names), number), ("return", name, number),
                    ("narrow", name, number, scope),
                    ("narrow", name, number, drawn_scope(draw, [*self.pairs, ODD], 2)), ("arrive", draw.randint(0, 9)),
                    ("news", draw.choice([None, *names]), draw.choice(names)), ("news", None, draw.choice(names)),
                    ("pass", draw.choice(names), "zoe", number), ("answer", draw.randint(0, 3), "no", ()),
                    ("start", "ann", ("ask", "zoo", (), ("stop",), ("stop",))), None, ("issue", "ann")]
        return draw.choice(choices)


class HistoryTests(unittest.TestCase):

    def agrees(self, world, model):
        """Every query says what the model says."""
        self.assertTrue(same(world.table_now(), model.table))
        self.assertTrue(same(world.bank_now(), model.bank()))
        for name in model.names:
            self.assertTrue(same(world.office_now(name), model.office(name)))
        self.assertTrue(same(world.letters_now(), model.letters_left()))
        self.assertTrue(same(world.runs_now(), model.told_runs()))
        self.assertTrue(same(world.places_now(), model.places()))
        for run in range(len(model.runs)):
            self.assertTrue(same(world.answers_now(run), model.answers(run)))
            self.assertTrue(same(world.outputs_now(run), model.outputs(run)))
        self.assertTrue(same(rows_left(world), model.rows_left()))
        for row in model.table[1]:
            self.assertTrue(same(as_if(world, row), model.as_if(row)))
        self.assertTrue(same(world.log(), (("world", model.table, model.names), *model.rows)))
        self.assertEqual(len(world), len(model.rows))

    def guarantees(self, world, model):
        table, bank = model.table, world.bank_now()
        self.assertIs(lets_bank(table, bank), True)
        for name in model.names:
            self.assertIs(lets_office(table, world.office_now(name)), True)
        # C1, also for what an office hears and strikes itself.
        self.assertNotEqual(rows_left(world), ())
        strikes = {pair for asked in model.given() for pair in reference.strikes(table, *asked)}
        self.assertEqual(reference.alive(table, strikes), rows_left(world))
        paper = audit_paper(world)
        self.assertIsNone(entries.audit(world, paper))
        self.assertEqual(lets_audit(world, paper), len(model.given()))
        self.check_choice(world, model, bank[4])
        # C5: the coins outside are those at offices, in letters, and used with a report that has not arrived.
        late = {letter[1] for _, letter in world.letters_now() if letter[0] == "report"}
        outside = {number for number, place in world.places_now()
                   if place[0] in ("office", "letter") or place[0] == "used" and number in late}
        self.assertEqual(outside, set(dict(bank[1])))
        self.assertEqual([number for number, _ in world.places_now()], list(range(bank[2])))
        # C6.
        if not world.letters_now() and bank[4] is None:
            self.assertEqual(reference.alive(table, bank[0]), reference.alive(table, strikes))

    def check_choice(self, world, model, row):
        """Guarantee C2."""
        if row is None:
            return
        self.assertEqual(as_if(world, row), (True,) * len(model.runs))
        self.assertIn(row, rows_left(world))
        heard = {letter[1] for letter, came in zip(model.letters, model.came) if letter[0] == "choice" and came}
        for run, (name, program, path, output) in enumerate(world.runs_now()):
            whole, said = run_on(model.table, row, program)
            self.assertEqual((whole[:len(path)], said[:len(output)]), (path, output))
            if name in heard:
                self.assertEqual(world.outputs_now(run), (said,))
                self.assertEqual(world.answers_now(run), whole[len(path):len(path) + 1])
                again = replayed(world.log())
                for answer in whole[len(path):]:
                    again.give_answer(run, answer, ())
                self.assertEqual(again.runs_now()[run][2:], (whole, said))

    def check_steps(self, world, model):
        """Guarantees C3, C4 and C7, and the widest scope: what the world can do next."""
        bank = world.bank_now()
        widest = world.widest_now()
        self.assertTrue(same(widest, model.widest()))
        for pair in reference.pairs_of(model.table):
            refused = False
            try:
                issue(model.table, bank, (pair,))
            except InvalidStep as error:
                refused = error.reason == "unsafe"
            self.assertIs(worst_case(model.table, bank, (pair,)) is not None, refused)
            if not bank[3]:
                self.assertIs(refused, pair not in widest)
        for run in range(len(model.runs)):
            if model.question(run) is not None:
                struck, coins, _ = world.office_now(model.runs[run][0])
                for answer in ("no", "yes"):
                    strikes = reference.strikes(model.table, *model.question(run), answer)
                    paid = [pair for pair in strikes if pair not in reference.dead(model.table, struck)]
                    ways = payments(coins, paid)
                    self.assertIs(answer in world.answers_now(run), bool(ways))
                    for numbers in ways[:2]:
                        again = replayed(world.log())
                        again.give_answer(run, answer, numbers)
                        self.assertTrue(set(again.outputs_now(run)) <= set(world.outputs_now(run)))

    def history(self, seed, table, names, steps, met, depth=4):
        draw = random.Random(seed)
        drawer = Drawer(draw, table, names, depth)
        world, model = World(table, names), Model(table, names)
        for k in range(steps):
            row = drawer.row(model, k / steps)
            before = str(world)
            found, wanted = done(world, row), expected(model, row)
            self.assertTrue(same(found, tuple(wanted)), (row, found, wanted, before))
            met.add(found[1] if found[0] == "InvalidStep" else found[0])
            if found[0] == "returned":
                met.add(row[0])
                self.agrees(world, model)
                self.guarantees(world, model)
                self.check_steps(world, model)
            else:
                self.assertEqual(str(world), before)
            if draw.random() < 0.05 and model.rows:
                self.assertIs(world.undo(), model.rows[-1])
                model.undo()
                self.agrees(world, model)
        self.agrees(replayed(world.log()), model)
        met |= {letter[0] + str(came) for letter, came in zip(model.letters, model.came)}

    def test_histories(self):
        met = set()
        for seed in range(120):
            table = (*SMALL_TABLES, WIDE, drawn_table(random.Random(seed), 3, 3, 6))[seed % 6]
            self.history(seed, table, (("ann",), ("ann", "bob"), ("ann", "bob", "eve"))[seed % 3], 45, met)
        reasons = {"shape", "office", "run", "letter", "same", "UnknownPair", "called", "unsafe", "none", "many",
                   "coin",
                   "scope", "open", "outside", "chosen", "row"}
        words = {"issue", "start", "answer", "pass", "return", "narrow", "news", "arrive", "call", "choose"}
        letters = {word + came for word in ("coin", "back", "report", "news", "call", "choice") for came in ("True",
                                                                                                             "False")}
        self.assertEqual((reasons | words | letters | {"returned"}) - met, set())

    def finish(self, world, model, draw):
        """Let everything come to its end: call, all letters, a choice, all letters; in any order, often twice."""
        if not model.called:
            self.assertEqual(done(world, ("call",)), expected(model, ("call",)))
        for _ in range(2):
            while world.letters_now():
                number = draw.choice(world.letters_now())[0]
                for _ in range(draw.choice((1, 1, 2))):
                    row = ("arrive", number)
                    self.assertTrue(same(done(world, row), expected(model, row)))
                self.guarantees(world, model)
                self.check_steps(world, model)
            if model.chosen is None:
                self.assertEqual(world.bank_now()[1], ())
                row = ("choose", draw.choice(reference.alive(model.table, model.reported)))
                self.assertEqual(done(world, row), expected(model, row))
        self.agrees(world, model)
        for run, (name, program, path, _) in enumerate(world.runs_now()):
            for answer in run_on(model.table, model.chosen, program)[0][len(path):]:
                world.give_answer(run, answer, ())
                model.do(("answer", run, answer, ()))
        self.agrees(world, model)
        self.guarantees(world, model)

    def test_histories_to_their_end(self):
        for seed in range(40):
            draw = random.Random(1000 + seed)
            table = (TABLE, WIDE, drawn_table(draw, 3, 3, 6), SMALL_TABLES[seed % 4])[seed % 4]
            names = ("ann", "bob", "eve")[:2 + seed % 2]
            drawer = Drawer(draw, table, names)
            world, model = World(table, names), Model(table, names)
            for _ in range(25):
                row = drawer.row(model, 0)
                self.assertTrue(same(done(world, row), tuple(expected(model, row))))
                self.guarantees(world, model)
            self.finish(world, model, draw)

    def test_at_the_limits(self):
        """Sixty rows, twenty-four rows of the table, three offices, six runs, five coins outside."""
        met = set()
        for seed in range(6):
            draw = random.Random(2466 + seed)
            table = (full_table(4, 5, 24), drawn_table(draw, 4, 5, 24), full_table(3, 5, 24))[seed % 3]
            names = ("ann", "bob", "eve")
            drawer = Drawer(draw, table, names, 3)
            questions = reference.questions(table)
            world, model = World(table, names), Model(table, names)
            for k in range(6):
                program = limit_program(draw.sample(questions, 6))
                self.assertEqual(done(world, ("start", names[k % 3], program)), ("returned", k))
                model.do(("start", names[k % 3], program))
            while len(model.rows) < 60:
                row = drawer.row(model, len(model.rows) / 80, world.widest_now())
                if row is not None and row[0] != "start" and (row[0] != "issue" or len(model.outside) < 5):
                    self.assertTrue(same(done(world, row), tuple(expected(model, row))))
            self.agrees(world, model)
            self.guarantees(world, model)
            self.assertEqual((len(world), len(world.runs_now())), (60, 6))
            self.assertEqual(replayed(world.log()), world)
            met |= {row[0] for row in model.rows} | {letter[0] for letter in model.letters}
        self.assertTrue({"issue", "answer", "report", "news", "narrow", "pass", "back", "call"} <= met, met)

    def test_five_coins_outside(self):
        for table in (full_table(4, 5, 24), full_table(4, 3, 24)):
            world, model = World(table, ("ann", "bob", "eve")), Model(table, ("ann", "bob", "eve"))
            for k in range(5):
                scope = world.widest_now()[k::4]
                for row in (("issue", ("ann", "bob", "eve")[k % 3], scope), ("arrive", k)):
                    self.assertTrue(same(done(world, row), expected(model, row)))
            self.assertEqual(len(world.bank_now()[1]), 5)
            world.start_run("ann", ("ask", table[0][0], ("p",), ("stop",), ("stop",)))
            self.assertEqual(len(world.outputs_now(0)), 1)
            widest = world.widest_now()
            for pair in reference.pairs_of(table):
                self.assertIs(worst_case(table, world.bank_now(), (pair,)) is None, pair in widest)

    def test_the_example_program(self):
        met = set()
        for seed in range(40):
            draw = random.Random(3000 + seed)
            world, model = World(TABLE, ("ann", "bob")), Model(TABLE, ("ann", "bob"))
            drawer = Drawer(draw, TABLE, ("ann", "bob"))
            for name in ("ann", "bob", "ann"):
                world.start_run(name, PROGRAM)
                model.do(("start", name, PROGRAM))
            for k in range(30):
                row = drawer.row(model, 0.5)
                if row is not None and row[0] != "start":
                    self.assertTrue(same(done(world, row), tuple(expected(model, row))))
            self.agrees(world, model)
            self.check_steps(world, model)
            met |= {run[3] for run in world.runs_now()}
        self.assertEqual(met, {(), ("large",), ("large", "early")})


if __name__ == "__main__":
    unittest.main()
