"""Points 6, 38 and 39: programs, their paths and outputs."""

import random
import unittest

from chosenlast.programs import is_path, next_question, output_of, paths_of, program_after
from tests import entries, reference
from tests.values import ANY_VALUES, PROGRAM, deep_program, drawn_program, limit_program, nested, same, variants

STOP = ("stop",)
QUESTIONS = (("room", ()), ("room", ("big",)), ("zzzzzzzz", ("a", "b", "c")), ("ask", ("say", "stop")), ("x", ("no",)))
# Says before, between and behind the asks, asks in both answers, the same question and the same words twice.
MIXED = ("say", "a", ("say", "b", (
    "ask", "x", (), ("ask", "x", (), ("say", "c", STOP), ("say", "a", ("say", "a", STOP))),
    ("say", "c", ("ask", "y", ("p", "q"), STOP, ("ask", "x", (), STOP, ("say", "stop", STOP)))))))


def long_yes(asks):
    """Return a program that asks so many questions as long as the answer is "yes"."""
    return deep_program([QUESTIONS[k % len(QUESTIONS)] for k in range(asks)])


def sample_programs():
    draw = random.Random(38)
    drawn = [drawn_program(draw, QUESTIONS, asks, 6) for asks in range(9) for _ in range(5)]
    return [STOP, ("say", "a", STOP), ("say", "a", ("say", "b", STOP)), PROGRAM, MIXED, long_yes(6), *drawn]


def full_program(depth):
    """Return a program with so many questions on each of its complete paths."""
    if depth == 0:
        return STOP
    return ("ask", *QUESTIONS[depth % 5], full_program(depth - 1), ("say", "no", full_program(depth - 1)))


class ProgramTests(unittest.TestCase):

    def test_examples(self):
        self.assertEqual(paths_of(PROGRAM), (("no",), ("yes", "no"), ("yes", "yes")))
        self.assertEqual(output_of(PROGRAM, ("yes",)), ("large",))
        self.assertEqual(next_question(PROGRAM, ("yes",)), ("time", ("mon",)))
        self.assertEqual(program_after(PROGRAM, ("yes", "yes")), ("say", "early", ("stop",)))

    def test_one_stop(self):
        self.assertEqual(paths_of(STOP), ((),))
        self.assertEqual(output_of(STOP, ()), ())
        self.assertIsNone(next_question(STOP, ()))
        self.assertEqual(program_after(STOP, ()), STOP)
        self.assertIs(is_path(STOP, ()), True)
        self.assertIs(is_path(STOP, ("no",)), False)

    def test_words_before_the_next_question_and_the_end(self):
        self.assertEqual(output_of(PROGRAM, ()), ())
        self.assertEqual(output_of(PROGRAM, ("yes", "yes")), ("large", "early"))
        self.assertEqual(output_of(MIXED, ()), ("a", "b"))
        self.assertEqual(output_of(MIXED, ("yes",)), ("a", "b"))
        self.assertEqual(output_of(MIXED, ("yes", "no")), ("a", "b", "a", "a"))
        self.assertEqual(output_of(MIXED, ("no",)), ("a", "b", "c"))
        self.assertEqual(output_of(MIXED, ("no", "no", "no")), ("a", "b", "c", "stop"))

    def test_what_follows(self):
        self.assertEqual(program_after(MIXED, ()), MIXED)
        self.assertEqual(program_after(PROGRAM, ("yes",))[:2], ("say", "large"))
        self.assertEqual(next_question(MIXED, ()), ("x", ()))
        self.assertEqual(next_question(MIXED, ("no",)), ("y", ("p", "q")))
        self.assertIsNone(next_question(MIXED, ("no", "yes")))

    def test_every_path(self):
        for program in sample_programs():
            walks = reference.walks(program)
            complete = sorted(path for path in walks if walks[path][1] is None)
            self.assertTrue(same(paths_of(program), tuple(complete)))
            asks = [node for node in entries.program_nodes(program) if node[0] == "ask"]
            self.assertEqual(len(paths_of(program)), len(asks) + 1)
            for path, (output, question, after, _) in walks.items():
                self.assertIs(is_path(program, path), True)
                self.assertTrue(same(output_of(program, path), output))
                self.assertTrue(same(next_question(program, path), question))
                self.assertTrue(same(program_after(program, path), after))
                for thing in variants(path):
                    self.assertIs(is_path(program, thing), type(thing) is tuple and thing in walks, thing)

    def test_is_path(self):
        for thing in ((), ("no",), ("yes",), ("yes", "no"), ("yes", "yes")):
            self.assertIs(is_path(PROGRAM, thing), True)
        # Behind the end, lists, other words.
        for thing in (("no", "no"), ("no", "yes"), ("yes", "no", "no"), ("yes",) * 3, [], ["no"], ["yes", "no"], "no",
                      "yes", "", ("Yes",), ("open",), ("yes", "maybe"), ("yes", ""), ("yes", None), ("yes", ("no",)),
                      (True,), (False,), (1,), (0,), ("yes", True), (["yes"],), (("yes",),), ("yesno",), ("n",),
                      None, True, 0, -1, ("yes", "no", None), ("no", ())):
            self.assertIs(is_path(PROGRAM, thing), False, thing)

    def test_any_value(self):
        for program in (STOP, PROGRAM, MIXED):
            for value in (*ANY_VALUES, nested(tuple, 29)):
                self.assertIs(is_path(program, value), type(value) is tuple and value == ())
                self.assertIs(is_path(program, (value,)), program != STOP and value in ("yes", "no"))
                self.assertIs(is_path(program, ("yes", value)), program != STOP and value in ("yes", "no"))
                self.assertIs(is_path(program, [value]), False)

    def test_at_the_limits(self):
        program = limit_program(QUESTIONS + QUESTIONS[:1])
        self.assertEqual(len(entries.program_nodes(program)), 16)
        self.assertEqual(paths_of(program), (
            ("no", "no"), ("no", "yes", "no", "no"), ("no", "yes", "no", "yes", "no", "no"),
            ("no", "yes", "no", "yes", "no", "yes"), ("no", "yes", "no", "yes", "yes"), ("no", "yes", "yes"), ("yes",)))
        for program, asks in ((program, 6), (long_yes(6), 6), (long_yes(7), 7), (full_program(3), 7)):
            self.assertEqual(len(paths_of(program)), asks + 1)
            for path in paths_of(program):
                self.assertIs(is_path(program, path), True)
                self.assertEqual(output_of(program, path), reference.walks(program)[path][0])

    def test_larger_programs(self):
        program = full_program(9)
        paths = paths_of(program)
        self.assertEqual(len(paths), 512)
        self.assertEqual(paths, tuple(sorted(paths)))
        self.assertEqual([output_of(program, path) for path in paths], [("no",) * path.count("no") for path in paths])

    def test_programs_that_are_deeper_than_a_recursion(self):
        program = STOP
        for _ in range(5000):
            program = ("say", "a", program)
        self.assertEqual(paths_of(program), ((),))
        self.assertEqual(output_of(program, ()), ("a",) * 5000)
        self.assertIsNone(next_question(program, ()))
        for k in range(400):
            program = ("ask", "x", (), program, STOP)
        self.assertEqual(len(paths_of(program)), 401)
        self.assertEqual(paths_of(program)[-1], ("yes",) * 400)
        self.assertIs(is_path(program, ("yes",) * 400), True)
        self.assertIs(is_path(program, ("yes",) * 401), False)
        self.assertEqual(len(output_of(program, ("yes",) * 400)), 5000)
        self.assertEqual(next_question(program, ("yes",) * 399), ("x", ()))
        self.assertEqual(program_after(program, ("yes",) * 400)[:2], ("say", "a"))


if __name__ == "__main__":
    unittest.main()
