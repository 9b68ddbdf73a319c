"""Point 47: programs as texts."""

import itertools
import random
import unittest

from chosenlast.errors import InvalidText
from chosenlast.kinds import is_name
from chosenlast.programreadings import program_read
from chosenlast.programtexts import program_text
from tests.values import ANY_VALUES, PROGRAM, deep_program, drawn_program, limit_program, same

STOP = ("stop",)
TEXT = "ask room big say large ask time mon say early stop stop stop"


class Fault(Exception):
    """The position of the first field that cannot stand."""


def after_program(fields, at):
    """Return the position behind the program that begins there; raise Fault otherwise."""
    word = fields[at] if at < len(fields) else None
    if word == "stop":
        return at + 1
    if word not in ("say", "ask"):
        raise Fault(at)
    if at + 1 == len(fields) or not is_name(fields[at + 1]):
        raise Fault(at + 1)
    if word == "say":
        return after_program(fields, at + 2)
    if at + 2 == len(fields) or not is_chosen(fields[at + 2]):
        raise Fault(at + 2)
    return after_program(fields, after_program(fields, at + 3))


def is_chosen(field):
    names = field.split(",")
    return field == "-" or all(map(is_name, names)) and names == sorted(set(names))


def position(text):
    """Return the position of the error in a text, or None if it writes a program."""
    fields = text.split(" ")
    try:
        end = after_program(fields, 0)
    except Fault as fault:
        return fault.args[0]
    return None if end == len(fields) else end


class ProgramTextTests(unittest.TestCase):

    def refused(self, field, text):
        for line in (0, 7):
            with self.assertRaises(InvalidText) as caught:
                program_read(text, line=line)
            self.assertTrue(same((caught.exception.line, caught.exception.field), (line, field)), text)

    def test_examples(self):
        self.assertEqual(program_text(PROGRAM), TEXT)
        self.refused(4, "ask room - stop")

    def test_written_forms(self):
        for program, text in (
                (STOP, "stop"), (("say", "stop", STOP), "say stop stop"),
                (("say", "say", ("say", "ask", STOP)), "say say say ask stop"),
                (("ask", "a", (), STOP, STOP), "ask a - stop stop"),
                (("ask", "a", ("b", "c", "d"), ("say", "x", STOP), STOP), "ask a b,c,d say x stop stop"),
                (("ask", "ask", ("ask", "say", "stop"), STOP, ("say", "no", STOP)),
                 "ask ask ask,say,stop stop say no stop"),
                (("ask", "a", ("b",), ("ask", "c", (), STOP, ("say", "x", STOP)), STOP),
                 "ask a b ask c - stop say x stop stop")):
            self.assertEqual(program_text(program), text)
            self.assertTrue(same(program_read(text), program))

    def test_reading_and_writing_are_inverse(self):
        draw = random.Random(47)
        questions = (("a", ()), ("room", ("big",)), ("stop", ("ask", "say", "stop")), ("abcdefgh", ("b", "bb", "c")))
        programs = [drawn_program(draw, questions, asks, 6) for asks in range(12) for _ in range(6)]
        for program in (PROGRAM, limit_program(questions[:3] * 2), *programs):
            text = program_text(program)
            self.assertIs(type(text), str)
            self.assertTrue(same(program_read(text), program))
            self.assertTrue(same(program_read(text, line=3), program))

    def test_the_line(self):
        with self.assertRaises(InvalidText) as caught:
            program_read("go")
        self.assertTrue(same((caught.exception.line, caught.exception.field), (0, 0)))
        with self.assertRaises(InvalidText) as caught:
            program_read(text="say", line=10 ** 59)
        self.assertEqual((caught.exception.line, caught.exception.field), (10 ** 59, 1))
        with self.assertRaises(TypeError):
            program_read("stop", 1)

    def test_empty_fields(self):
        for text, field in (("", 0), (" ", 0), ("  ", 0), (" stop", 0), ("stop ", 1), ("stop  ", 1), ("say  a stop", 1),
                            ("say a  stop", 2), ("say a ", 2), ("say ", 1), ("ask  a - stop stop", 1), ("ask a ", 2),
                            ("ask a  - stop stop", 2), ("ask a -  stop stop", 3), ("ask a - stop  stop", 4),
                            ("ask a - stop stop ", 5), ("ask a - stop ", 4)):
            self.refused(field, text)

    def test_missing_fields(self):
        fields = TEXT.split(" ")
        for k in range(1, len(fields)):
            self.refused(k, " ".join(fields[:k]))

    def test_surplus_fields(self):
        for more in ("stop", "say", "a", "-", "stop stop", "\n", "say a stop"):
            self.refused(1, "stop " + more)
            self.refused(3, "say a stop " + more)
            self.refused(13, TEXT + " " + more)

    def test_words_that_cannot_stand(self):
        for word in ("Stop", "stops", "tell", "-", "a", "stop\n", "\nstop", "stop,stop", "0", "say,a"):
            self.refused(0, word)
            self.refused(2, "say a " + word)
            self.refused(3, "ask a - " + word + " stop")
            self.refused(4, "ask a - stop " + word)

    def test_names_that_cannot_stand(self):
        for name in ("-", "A", "aB", "a1", "a,b", "abcdefghi", "a\n", "a-", "a:b", "0"):
            self.refused(1, "say " + name + " stop")
            self.refused(1, "ask " + name + " - stop stop")
        self.refused(1, "say abcdefghi")
        self.assertEqual(program_read("say abcdefgh stop"), ("say", "abcdefgh", STOP))

    def test_chosen_that_cannot_stand(self):
        for chosen in ("b,a", "a,a", "a,b,b", "a,c,b", "a,", ",a", ",", "a,,b", "-,a", "a,-", "--", "A", "a,B", "a,b\n",
                       "abcdefghi", "a,abcdefghi", "a;b", "0", "a:b", "()"):
            self.refused(2, "ask a " + chosen + " stop stop")
            self.refused(2, "ask a " + chosen)
        self.assertEqual(program_read("ask a a,ab,b stop stop"), ("ask", "a", ("a", "ab", "b"), STOP, STOP))

    def test_all_short_texts(self):
        words = ("stop", "say", "ask", "a", "-", "a,b", "b,a", "")
        for size in range(1, 6):
            for fields in itertools.product(words, repeat=size):
                self.agrees(" ".join(fields))

    def test_changed_texts(self):
        draw = random.Random(4747)
        questions = (("a", ()), ("room", ("big",)), ("stop", ("ask", "say", "stop")))
        words = ("stop", "say", "ask", "a", "-", "a,b", "b,a", "", "B", "abcdefghi", "a\n")
        programs = [drawn_program(draw, questions, asks, 5) for asks in range(8) for _ in range(3)]
        for text in [TEXT] + [program_text(program) for program in programs]:
            fields = text.split(" ")
            for k in range(len(fields) + 1):
                self.agrees(" ".join(fields[:k] + fields[k + 1:]))
                for word in words:
                    self.agrees(" ".join(fields[:k] + [word] + fields[k:]))
                    self.agrees(" ".join(fields[:k] + [word] + fields[k + 1:]))

    def agrees(self, text):
        """The text is refused at the first field that cannot stand, or writes a program that is written like this."""
        at = position(text)
        if at is None:
            self.assertEqual(program_text(program_read(text)), text)
        else:
            self.refused(at, text)

    def test_any_string(self):
        for thing in ANY_VALUES:
            if type(thing) is str:
                for text in (thing, "say " + thing, "say a " + thing, "ask a " + thing + " stop stop", "stop " + thing):
                    self.agrees(text)
        for letter in [chr(k) for k in range(32, 127)] + ["\n"]:
            for text in (letter, "stop" + letter, letter + "stop", "say" + letter + "a stop", "say " + letter + " stop",
                         "ask a " + letter + " stop stop", "ask a a" + letter + "b stop stop"):
                self.agrees(text)

    def test_long_texts(self):
        """Texts of four thousand characters, deeper than a recursion."""
        text = "say a " * 665 + "stop"
        self.assertEqual(program_text(program_read(text)), text)
        self.refused(665 * 2, text[:-4] + "halt")
        self.refused(665 * 2 + 1, text + " stop")
        text = "ask a - " * 305 + " ".join(["stop"] * 306)
        program = program_read(text)
        self.assertEqual(program_text(program), text)
        self.refused(305 * 4, text[:-5])
        program = program_read("ask a - stop " * 300 + "stop")
        self.assertEqual(program_text(program), "ask a - stop " * 300 + "stop")
        self.assertEqual(program_text(deep_program([("a", ("b",))] * 5000)).count("ask a b say yes"), 5000)


if __name__ == "__main__":
    unittest.main()
