"""Points 72 and 73: rows that are left, as if on a row, audit papers and their checker."""

import unittest

from chosenlast.auditchecker import lets_audit
from chosenlast.auditpapers import audit_paper
from chosenlast.errors import InvalidPaper
from chosenlast.truths import as_if, rows_left
from chosenlast.worlds import World
from tests import entries, reference
from tests.test_worlds import PROGRAM, ROOM, STOP, TIME, TWICE, asked, world_of
from tests.values import ANY_VALUES, COIN_TOSS, SMALL_TABLES, TABLE, WIDE, checked, copied, nested, same, variants

BIG, SMALL = ("room", "big"), ("room", "small")
MON, TUE, WED = ("time", "mon"), ("time", "tue"), ("time", "wed")
ODD = ("year", "old")
BIG_ROWS = (("big", "mon"), ("big", "tue"))

ANSWERED = (("issue", "ann", (SMALL,)), ("arrive", 0), ("start", "ann", PROGRAM), ("answer", 0, "yes", (0,)))
# Three runs with two, no and two answers.
BUSY = (("issue", "ann", (SMALL, TUE)), ("issue", "ann", (TUE,)), ("arrive", 0), ("arrive", 1),
        ("start", "ann", PROGRAM),
        ("start", "bob", ROOM), ("start", "ann", TWICE), ("answer", 0, "yes", (0,)), ("answer", 2, "yes", ()),
        ("answer", 0, "yes", (1,)), ("answer", 2, "yes", ()))
BUSY_PAPER = (("big", "mon"), (((SMALL,), (TUE, WED)), (), ((SMALL,), (SMALL,))))
# The same with a choice.
CHOSEN = (*BUSY, ("arrive", 2), ("arrive", 3), ("call",), ("arrive", 5), ("arrive", 4), ("choose", ("big", "mon")))


class TruthTests(unittest.TestCase):

    def test_examples(self):
        world = world_of(*ANSWERED, names=("ann",))
        self.assertTrue(same([rows_left(world), as_if(world, ("big", "tue")), as_if(world, ("small", "mon"))],
                             [BIG_ROWS, (True,), (False,)]))

    def test_at_first(self):
        for table in (*SMALL_TABLES, WIDE):
            world = World(table, ("ann",))
            self.assertTrue(same(rows_left(world), table[1]))
            for row in table[1]:
                self.assertTrue(same(as_if(world, row), ()))
            world.start_run("ann", STOP)
            self.assertTrue(same((rows_left(world), as_if(world, table[1][0])), (table[1], (True,))))

    def test_several_runs(self):
        world = world_of(*BUSY)
        self.assertTrue(same(rows_left(world), (("big", "mon"),)))
        self.assertTrue(same([as_if(world, row) for row in TABLE[1]], [
            (True, True, True), (False, True, True), (False, True, False), (False, True, False)]))
        self.assertTrue(same(rows_left(world_of(*CHOSEN)), (("big", "mon"),)))

    def test_reports_and_letters_do_not_matter(self):
        """Only answers do."""
        world = world_of(*ANSWERED, ("issue", "bob", (MON,)), ("arrive", 2), ("call",))
        self.assertEqual(rows_left(world), BIG_ROWS)
        world = world_of(("call",), ("choose", ("small", "wed")), ("arrive", 2), ("arrive", 3))
        self.assertEqual(rows_left(world), TABLE[1])

    def test_questions_without_and_with_all_candidates(self):
        program = ("ask", "room", (), STOP, ("ask", "time", ("mon", "tue", "wed"), STOP, STOP))
        world = world_of(("start", "ann", program), ("answer", 0, "no", ()), ("answer", 0, "yes", ()))
        self.assertEqual(rows_left(world), TABLE[1])
        self.assertEqual(audit_paper(world)[1], (((), ()),))
        self.assertEqual(lets_audit(world, audit_paper(world)), 2)

    def test_by_position_and_by_name(self):
        world = world_of(*BUSY)
        self.assertEqual(rows_left(world=world), rows_left(world))
        self.assertEqual(as_if(world=world, row=("big", "mon")), (True,) * 3)
        self.assertEqual(audit_paper(world=world), audit_paper(world))
        self.assertEqual(lets_audit(world=world, thing=BUSY_PAPER), 4)

    def test_the_world_is_not_changed(self):
        world = world_of(*BUSY)
        before, counts = asked(world), world.counts()
        rows_left(world), as_if(world, ("big", "tue")), audit_paper(world), lets_audit(world, BUSY_PAPER)
        checked(lets_audit, world, None)
        self.assertTrue(same(asked(world), before))
        self.assertEqual(world.counts(), counts)


class AuditTests(unittest.TestCase):

    def refused(self, word, at, world, thing):
        kept = copied(thing)
        with self.assertRaises(InvalidPaper) as caught:
            lets_audit(world, thing)
        self.assertTrue(same((caught.exception.word, caught.exception.at), (word, at)), (thing, vars(caught.exception)))
        self.assertTrue(same(thing, kept))

    def agrees(self, world, thing):
        found, expected = checked(lets_audit, world, thing), entries.audit(world, thing)
        count = sum(len(run[2]) for run in world.runs_now())
        self.assertTrue(same(found, count if expected is None else expected), (thing, found, expected))

    def test_example(self):
        self.refused("row", -1, World(TABLE, ("ann",)), (("big", "wed"), ()))

    def test_papers(self):
        world = world_of(*BUSY)
        self.assertTrue(same(audit_paper(world), BUSY_PAPER))
        self.assertTrue(same(lets_audit(world, BUSY_PAPER), 4))
        world = world_of(*CHOSEN)
        self.assertTrue(same(audit_paper(world), BUSY_PAPER))
        self.assertTrue(same(lets_audit(world, BUSY_PAPER), 4))
        for rows in ((), (("start", "ann", STOP),), (("start", "ann", ROOM), ("call",)), ANSWERED):
            for table in (TABLE,) if rows is ANSWERED or len(rows) == 2 else (TABLE, COIN_TOSS):
                world = world_of(*rows, table=table)
                paper = audit_paper(world)
                self.assertIsNone(entries.audit(world, paper))
                self.assertEqual(lets_audit(world, paper), 1 if rows is ANSWERED else 0)

    def test_every_row_that_is_left_is_accepted(self):
        world = world_of(*ANSWERED)
        for row in TABLE[1]:
            self.assertEqual(checked(lets_audit, world, (row, (((SMALL,),),))),
                             1 if row in BIG_ROWS else ("holds", (0, 0)))

    def test_with_a_choice(self):
        for row in TABLE[1]:
            world = world_of(("start", "ann", ROOM), ("call",), ("choose", row), ("arrive", 2))
            self.assertEqual(audit_paper(world), (row, ((),)))
            for other in TABLE[1]:
                found = checked(lets_audit, world, (other, ((),)))
                self.assertTrue(same(found, 0 if other == row else ("choice", -1)))
            world.give_answer(0, world.answers_now(0)[0], ())
            self.assertEqual(audit_paper(world)[0], row)
            self.assertTrue(same(lets_audit(world, audit_paper(world)), 1))

    def test_shape(self):
        world = world_of(*BUSY)
        row, strikes = BUSY_PAPER
        for thing in ([row, strikes], (row,), (row, strikes, ()), (list(row), strikes), (row, list(strikes)),
                      ("big", strikes), (("big", "Mon"), strikes), (("big", 1), strikes), (None, strikes), (row, None),
                      (row, ([(SMALL,), (TUE, WED)], (), ())), (row, (([SMALL], (TUE, WED)), (), ())),
                      (row, (((list(SMALL),), (TUE, WED)), (), ())), (row, (((SMALL,), (WED, TUE)), (), ())),
                      (row, (((SMALL, SMALL), (TUE, WED)), (), ())), (row, ((SMALL, (TUE, WED)), (), ())),
                      (row, (((None,),), (), ())), (row, ((0,), (), ())), (row, ((("a", "B"),), (), ())), world):
            self.refused("shape", -1, world, thing)

    def test_any_value(self):
        world = world_of(*BUSY)
        row, strikes = BUSY_PAPER
        for thing in (*ANY_VALUES, nested(tuple, 30)):
            for paper in (thing, (thing, strikes), (row, thing), (row, (thing, *strikes[1:])),
                          (row, ((thing, (TUE, WED)), *strikes[1:])), (row, (((thing,), (TUE, WED)), *strikes[1:]))):
                self.agrees(world, paper)

    def test_row_choice_and_runs(self):
        world, chosen = world_of(*BUSY), world_of(*CHOSEN)
        for row in ((), ("big",), ("big", "wed"), ("mon", "big"), ("big", "mon", "mon")):
            self.refused("row", -1, world, (row, ()))
            self.refused("row", -1, chosen, (row, ()))
        for row in TABLE[1][1:]:
            self.refused("choice", -1, chosen, (row, ()))
        for strikes in ((), BUSY_PAPER[1][:2], (*BUSY_PAPER[1], ())):
            self.refused("runs", -1, world, (("small", "mon"), strikes))
            self.refused("runs", -1, chosen, (("big", "mon"), strikes))

    def test_answers_struck_and_holds_run_by_run(self):
        world = world_of(*BUSY)
        row, (first, second, third) = BUSY_PAPER
        for strikes, r in ((((SMALL,),), 0), ((), 0), ((*first, ()), 0)):
            self.refused("answers", r, world, (("small", "mon"), (strikes, ((),), ((),))))
        self.refused("answers", 1, world, (row, (first, ((),), ())))
        self.refused("answers", 2, world, (row, (first, second, ((SMALL,),))))
        for scopes, at in ((((), (TUE, WED)), (0, 0)), (((BIG,), (TUE, WED)), (0, 0)), (((SMALL,), (TUE,)), (0, 1)),
                           (((SMALL,), (MON, TUE, WED)), (0, 1)), (((ODD,), (ODD,)), (0, 0)),
                           (((SMALL, WED), ()), (0, 0))):
            self.refused("struck", at, world, (row, (scopes, ((),), ())))
        self.refused("struck", (2, 1), world, (row, (first, second, ((SMALL,), ()))))
        self.refused("holds", (0, 0), world, (("small", "mon"), (((SMALL,), ()), ((),), ())))
        self.refused("holds", (0, 1), world, (("big", "tue"), (first, ((),), ())))
        # Answer by answer: "struck" of the first one, then "holds" of the first one, then those of the second one.
        self.refused("struck", (0, 1), world, (("big", "tue"), (((SMALL,), ()), second, third)))

    def test_changed_papers(self):
        for world in (world_of(*BUSY), world_of(*CHOSEN), world_of(*ANSWERED), world_of(("start", "ann", TIME)),
                      world_of()):
            paper = audit_paper(world)
            self.agrees(world, paper)
            for thing in variants(paper):
                self.agrees(world, thing)
                if type(thing) is tuple:
                    for worse in list(variants(thing))[::9]:
                        self.agrees(world, worse)

    def test_what_is_accepted_is_true(self):
        """Guarantee C8: the row of an accepted paper is left."""
        for world in (world_of(*BUSY), world_of(*CHOSEN), world_of(*ANSWERED)):
            _, strikes = audit_paper(world)
            for row in TABLE[1]:
                found = checked(lets_audit, world, (row, strikes))
                chosen = world.bank_now()[4]
                self.assertIs(type(found) is int, row in rows_left(world) and chosen in (None, row))
            self.assertEqual(rows_left(world), reference.alive(TABLE, [
                pair for run in strikes for scope in run for pair in scope]))


if __name__ == "__main__":
    unittest.main()
