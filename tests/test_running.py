"""Points 6 and 40: runs on a row, and paths that agree with it."""

import random
import unittest

from chosenlast.running import agrees, run_on
from tests import reference
from tests.values import (
    COIN_TOSS, DIAGONAL, PROGRAM, SMALL_TABLES, TABLE, WIDE, deep_program, drawn_program, full_table, limit_program,
    same)

STOP = ("stop",)


class RunningTests(unittest.TestCase):

    def test_examples(self):
        self.assertEqual(run_on(TABLE, ("big", "tue"), PROGRAM), (("yes", "no"), ("large",)))
        self.assertEqual(run_on(TABLE, ("big", "mon"), PROGRAM), (("yes", "yes"), ("large", "early")))
        self.assertEqual(run_on(TABLE, ("small", "mon"), PROGRAM), (("no",), ()))

    def test_programs_that_ask_nothing(self):
        for row in TABLE[1]:
            self.assertEqual(run_on(TABLE, row, STOP), ((), ()))
            self.assertEqual(run_on(TABLE, row, ("say", "b", ("say", "a", STOP))), ((), ("b", "a")))
            self.assertIs(agrees(TABLE, row, STOP, ()), True)

    def test_none_and_all_chosen(self):
        for row in TABLE[1]:
            self.assertEqual(run_on(TABLE, row, ("ask", "time", (), STOP, ("say", "a", STOP))), (("no",), ("a",)))
            every = ("ask", "time", ("mon", "tue", "wed"), ("say", "a", STOP), STOP)
            self.assertEqual(run_on(TABLE, row, every), (("yes",), ("a",)))

    def test_agrees(self):
        row = ("big", "tue")
        for path, expected in (((), True), (("yes",), True), (("yes", "no"), True), (("no",), False),
                               (("yes", "yes"), False)):
            self.assertIs(agrees(TABLE, row, PROGRAM, path), expected)
        # The same question twice: a path may answer it in two ways, a run does not.
        twice = ("ask", "a", ("x",), ("ask", "a", ("x",), STOP, STOP), ("ask", "a", ("x",), STOP, STOP))
        for row, word in ((("x",), "yes"), (("y",), "no")):
            found = [path for path in reference.walks(twice) if agrees(COIN_TOSS, row, twice, path)]
            self.assertEqual(sorted(found), [(), (word,), (word, word)])

    def test_exactly_one_complete_path_agrees(self):
        draw = random.Random(40)
        for table in (*SMALL_TABLES, WIDE, full_table(4, 5, 24)):
            questions = reference.questions(table)
            programs = [drawn_program(draw, questions, asks, 6) for asks in (1, 3, 5, 7) for _ in range(3)]
            programs.append(limit_program(draw.sample(questions * 2, 6)))
            for program in (STOP, *programs):
                for row in table[1]:
                    self.check(table, row, program)

    def check(self, table, row, program):
        walks = reference.walks(program)
        answers = {path: tuple(reference.answer(table, row, item, chosen) for item, chosen, _ in asked)
                   for path, (_, _, _, asked) in walks.items()}
        for path in walks:
            self.assertIs(agrees(table, row, program, path), path == answers[path])
        runs = [path for path, (_, question, _, _) in walks.items() if question is None and path == answers[path]]
        self.assertEqual(len(runs), 1)
        self.assertTrue(same(run_on(table, row, program), (runs[0], walks[runs[0]][0])))

    def test_programs_that_are_deeper_than_a_recursion(self):
        program = deep_program([("a", ("p",))] * 3000)
        self.assertEqual(run_on(DIAGONAL, ("p", "q"), program), (("yes",) * 3000, ("yes",) * 3000))
        self.assertEqual(run_on(DIAGONAL, ("q", "r"), program), (("no",), ("no",)))
        self.assertIs(agrees(DIAGONAL, ("p", "q"), program, ("yes",) * 2999), True)
        self.assertIs(agrees(DIAGONAL, ("p", "q"), program, ("yes",) * 2999 + ("no",)), False)


if __name__ == "__main__":
    unittest.main()
