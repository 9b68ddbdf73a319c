"""Point 38: the checker of programs."""

import random
import unittest

from chosenlast.errors import InvalidPaper
from chosenlast.programchecker import lets_program
from tests import entries, reference
from tests.values import (
    ANY_VALUES, COIN_TOSS, PROGRAM, TABLE, WIDE, checked, deep_program, drawn_program, full_table, limit_program,
    nested, same, variants)

STOP = ("stop",)


def ask(item, chosen, yes=STOP, no=STOP):
    return ("ask", item, chosen, yes, no)


class ProgramCheckerTests(unittest.TestCase):

    def refused(self, word, at, thing, table=TABLE):
        with self.assertRaises(InvalidPaper) as caught:
            lets_program(table, thing)
        self.assertTrue(same((caught.exception.word, caught.exception.at), (word, at)), caught.exception.__dict__)

    def agrees(self, table, thing):
        """The checker raises the first entry that holds, or returns the number of nodes."""
        found = checked(lets_program, table, thing)
        expected = entries.program(table, thing)
        if expected is None:
            expected = len(entries.program_nodes(thing))
        self.assertTrue(same(found, expected), (thing, found, expected))

    def test_number_of_nodes(self):
        self.assertIs(lets_program(TABLE, PROGRAM), 7)
        self.assertIs(lets_program(TABLE, STOP), 1)
        self.assertIs(lets_program(TABLE, ("say", "a", ("say", "stop", STOP))), 3)
        self.assertIs(lets_program(TABLE, ask("room", ())), 3)
        self.assertIs(lets_program(TABLE, ask("time", ("mon", "tue", "wed"), ask("time", ("mon",)), PROGRAM)), 11)
        self.assertIs(lets_program(TABLE, ("say", "abcdefgh", STOP)), 2)
        self.assertIs(lets_program(COIN_TOSS, ask("a", ("x", "y"))), 3)
        self.assertIs(lets_program(WIDE, ask("abcdefgh", ("a", "c"), ask("b", ("w",)), ask("c", ("s", "t")))), 7)

    def test_shape(self):
        for thing in (("stop", ()), ["stop"], "stop", (), [], ("Stop",), ("stopped",), (STOP,), ("say",), ("say", "a"),
                      ("say", "a", STOP, STOP), ("say", "a", "stop"), ("say", "a", ("stop", None)), ("say", "A", STOP),
                      ("say", "", STOP), ("say", "abcdefghi", STOP), ("say", ("a",), STOP), ("say", 1, STOP),
                      ("say", None, STOP), ["say", "a", STOP], ("say", "a", ["stop"]), ("say", "a", None),
                      ("ask", "room", ("big",), STOP), ("ask", "room", ("big",), STOP, STOP, STOP),
                      ["ask", "room", ("big",), STOP, STOP], ask("room", ["big"]), ask("room", "big"),
                      ask("room", None), ask("room", ("big", 1)), ask("room", ("Big",)), ask("room", ("big", "")),
                      ask("Room", ("big",)), ask("", ()), ask(("room",), ()), ask(0, ()), ask("room", (), STOP, None),
                      ask("room", (), None), ask("room", (), ("say", "a"), STOP),
                      ask("room", (), STOP, ("stop", "stop")),
                      ("tell", "a", STOP), ("no", "room", (), STOP, STOP), (None,), (0,), (("stop",),), ("asked",) * 5):
            self.refused("shape", -1, thing)
        # Before all faults of nodes.
        self.refused("shape", -1, ask("year", (), ask("room", ("mon",)), ("say", "a", None)))

    def test_any_value(self):
        for thing in (*ANY_VALUES, nested(tuple, 29), nested(list, 29)):
            for program in (thing, (thing,), ("say", "a", thing), ("say", thing, STOP), ask("room", thing),
                            ask(thing, ()), ask("room", (thing,)), ask("room", ("big", thing)), ask("room", (), thing),
                            ask("room", (), STOP, thing), (thing, "room", (), STOP, STOP), (thing, "a", STOP),
                            ("stop", thing)):
                self.agrees(TABLE, program)

    def test_deep_values(self):
        says = STOP
        for _ in range(29):
            says = ("say", "a", says)
        self.assertIs(lets_program(TABLE, says), 30)
        asks = STOP
        for _ in range(29):
            asks = ask("room", ("big",), STOP, asks)
        self.assertIs(lets_program(TABLE, asks), 59)
        # A program that was read from a text may be deeper than a recursion.
        for _ in range(3000):
            asks = ask("room", ("big",), ("say", "a", asks))
        self.assertEqual(lets_program(TABLE, asks), 59 + 9000)
        program = ask("year", ())
        for _ in range(3000):
            program = ask("room", ("big",), ("say", "a", program))
        self.refused("item", 6000, program)

    def test_item(self):
        for item in ("year", "a", "rooms", "big", "ask"):
            self.refused("item", 0, ask(item, ()))
            self.refused("item", 0, ask(item, ("big",)))
            self.refused("item", 1, ("say", "a", ask(item, ())))
        self.refused("item", 0, ask("a", ("x",)))
        self.assertIs(lets_program(COIN_TOSS, ask("a", ("x",))), 3)

    def test_chosen(self):
        for chosen in (("small", "big"), ("big", "big"), ("mon",), ("big", "mon"), ("big", "huge"), ("a",), ("room",),
                       ("big", "small", "tall"), ("big", "small", "small")):
            self.refused("chosen", 0, ask("room", chosen))
            self.refused("chosen", 1, ("say", "a", ask("room", chosen)))
        for chosen in ((), ("big",), ("small",), ("big", "small")):
            self.assertIs(lets_program(TABLE, ask("room", chosen)), 3)

    def test_preorder(self):
        """The nodes of yes come before those of no; both entries of one node before those of the next."""
        bad_item, bad_chosen = ask("year", ("big",)), ask("room", ("mon",))
        self.refused("item", 0, ask("year", ("mon", "big"), bad_chosen))
        self.refused("chosen", 0, ask("room", ("mon",), bad_item, bad_item))
        self.refused("item", 1, ask("room", (), bad_item, bad_chosen))
        self.refused("chosen", 1, ask("room", (), bad_chosen, bad_item))
        self.refused("item", 2, ask("room", (), STOP, bad_item))
        self.refused("chosen", 4, ask("room", (), ask("room", ()), bad_chosen))
        inner = ask("room", (), ("say", "a", STOP), ("say", "b", bad_item))
        self.refused("item", 5, ask("room", (), inner, bad_chosen))
        inner = ask("room", (), ("say", "a", STOP), ("say", "b", STOP))
        self.refused("chosen", 6, ask("room", (), inner, bad_chosen))

    def test_changed_programs(self):
        draw = random.Random(381)
        questions = reference.questions(TABLE)
        for program in (PROGRAM, *[drawn_program(draw, questions, 4, 3) for _ in range(20)]):
            self.agrees(TABLE, program)
            for thing in variants(program):
                self.agrees(TABLE, thing)
                self.agrees(WIDE, thing)

    def test_at_the_limits(self):
        table = full_table(4, 5, 24)
        questions = [(item, tuple("pqrst"[:k])) for item in "abcd" for k in range(6)]
        self.assertIs(lets_program(table, limit_program(questions[:6])), 16)
        self.assertIs(lets_program(table, deep_program(questions)), 24 * 4 + 1)
        self.refused("chosen", 24 * 2, deep_program([*questions, ("c", ("p", "u"))]), table)


if __name__ == "__main__":
    unittest.main()
