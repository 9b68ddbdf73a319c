"""Points 2, 3 and 10: which kind a value is of."""

import itertools
import re
import unittest

from chosenlast.kinds import (
    are_coins, is_answer, is_coin, is_name, is_number, is_pair, is_scope, is_table_shape)
from tests.values import ANY_VALUES, COINS, TABLE

KINDS = (is_number, is_name, is_pair, is_scope, is_coin, are_coins, is_answer, is_table_shape)

AB, AC, BA = ("a", "b"), ("a", "c"), ("b", "a")


def number(thing):
    return type(thing) is int and thing >= 0


def name(thing):
    return type(thing) is str and re.fullmatch("[a-z]{1,8}", thing) is not None


def tuple_of(kind, thing, size=None):
    return type(thing) is tuple and size in (None, len(thing)) and all(map(kind, thing))


def pair(thing):
    return tuple_of(name, thing, 2)


def scope(thing):
    return tuple_of(pair, thing) and list(thing) == sorted(set(thing))


def coin(thing):
    return type(thing) is tuple and len(thing) == 2 and number(thing[0]) and scope(thing[1])


def coins(thing):
    return (tuple_of(coin, thing) and list(thing) == sorted(thing)
            and len({number for number, _ in thing}) == len(thing))


def answer(thing):
    return type(thing) is str and thing in ("yes", "no")


def table_shape(thing):
    def names(row):
        return tuple_of(name, row)

    return type(thing) is tuple and len(thing) == 2 and names(thing[0]) and tuple_of(names, thing[1])


REFERENCES = (number, name, pair, scope, coin, coins, answer, table_shape)


class KindTests(unittest.TestCase):

    def check(self, thing):
        for kind, reference in zip(KINDS, REFERENCES):
            self.assertIs(kind(thing), reference(thing), (kind.__name__, thing))

    def yes(self, kind, *things):
        for thing in things:
            self.assertIs(kind(thing), True, thing)

    def no(self, kind, *things):
        for thing in things:
            self.assertIs(kind(thing), False, thing)

    def test_example(self):
        self.assertIs(is_scope((("time", "mon"), ("room", "big"))), False)
        self.assertIs(is_scope((("room", "big"), ("time", "mon"))), True)
        self.assertIs(are_coins(COINS), True)
        self.assertIs(is_table_shape(TABLE), True)

    def test_numbers(self):
        self.yes(is_number, 0, 1, 10 ** 60 - 1, 10 ** 70)
        self.no(is_number, -1, True, False, None, "0", "", (0,), [0], ())

    def test_names(self):
        self.yes(is_name, "a", "z", "abcdefgh", "zzzzzzzz", "yes")
        self.no(is_name, "", "abcdefghi", "A", "aB", "Ab", "a1", "1", "a ", " a", "a\n", "\na", "a\nb", "-", "a-b",
                "a:b", "`", "{", "~", 0, True, None, ("a",), ["a"], "\u00e4", "\u0101", "a" * 4000)

    def test_pairs(self):
        self.yes(is_pair, AB, BA, ("a", "a"), ("abcdefgh", "b"))
        self.no(is_pair, (), ("a",), ("a", "b", "c"), ["a", "b"], ("a", ""), ("a", "B"), ("a", "b\n"), ("a", 0),
                (0, "a"), ("abcdefghi", "a"), (True, False), "ab", (("a", "b"),), (["a"], "b"), None)

    def test_scopes(self):
        self.yes(is_scope, (), (AB,), (AB, AC), (AB, AC, BA))
        self.no(is_scope, [], [AB], (["a", "b"],), (AB, AB), (AC, AB), (AB, BA, AC), (AB, None), (AB, ("a",)),
                (None, AB), (AB, ("a", 1)), (0,), "", None, AB, (AB, AC, BA, BA), ((AB,),))

    def test_coins(self):
        self.yes(is_coin, (0, ()), (10 ** 60 - 1, (AB, AC)))
        self.no(is_coin, (0,), (0, (), ()), [0, ()], (0, []), (True, ()), (False, ()), (-1, ()), ("a", ()), (0, AB),
                (0, (AC, AB)), (0, (AB, AB)), (0, None), ((), 0), (), None, 0)
        self.yes(are_coins, (), ((0, ()),), ((0, (AB,)), (1, ())), ((3, ()), (10, (AB,)), (10 ** 60, (AB,))))
        self.no(are_coins, [], [(0, ())], ((0, ()), (0, ())), ((0, ()), (0, (AB,))), ((1, ()), (0, ())),
                ((0, (AB,)), (0, (AC,))), ((0, ()), (True, ())), ((0, ()), None), (0, ()), (((0, ()),),), None,
                ((0, ()), (2, ()), (1, ())), ((0, ()), [1, ()]), ((0, ()), (1, [])))

    def test_answers(self):
        self.yes(is_answer, "yes", "no")
        self.no(is_answer, "", "y", "Yes", "yes\n", "no ", True, False, None, ("yes",), ["no"], 0, 1, ("yes", "no"))

    def test_table_shapes(self):
        self.yes(is_table_shape, ((), ()), (("a",), ()), ((), (("a",),)), (("b", "a"), (("x",), ("x",), ())))
        self.no(is_table_shape, (), ((),), ((), (), ()), [(), ()], ([], ()), ((), []), ((), ([],)), (("A",), ()),
                ((0,), ()), (("a",), ("x",)), (("a",), (("x", None),)), (("a",), (("",),)), ("a", (("x",),)), None, "",
                ((), (("abcdefghi",),)), (("a",), (("x",), ["y"])))

    def test_any_values(self):
        for thing in ANY_VALUES:
            self.check(thing)
            for wrapped in ((thing,), [thing], (thing, thing), (0, thing), (thing, ()), ((), thing), (AB, thing),
                            ((0, ()), thing), (("a",), thing), (("a",), (thing,)), ("a", thing), (0, (thing,))):
                self.check(wrapped)

    def test_all_short_tuples(self):
        parts = (AB, AC, BA, "a", "", 0, 1, True, None, (), [], ("a",), ["a", "b"], (0, ()), (1, (AB,)), (True, ()))
        for size in range(4):
            for thing in itertools.product(parts, repeat=size):
                self.check(thing)
                if size < 3:
                    self.check(list(thing))
                    self.check((3, thing))

    def test_limits_do_not_matter(self):
        many = tuple((letter + other, "a") for letter in "abcdefghij" for other in "abcdefghij")
        self.yes(is_scope, many)
        self.yes(are_coins, tuple((number, many) for number in range(30)))
        self.no(are_coins, tuple((number, many) for number in range(30)) + ((29, ()),))
        self.yes(is_table_shape, (("a",) * 100, (("x",) * 3,) * 1000))


if __name__ == "__main__":
    unittest.main()
