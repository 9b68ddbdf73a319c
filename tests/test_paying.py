"""Points 5, 24 and 25: paying pairs with coins, and the papers that show whether it can be done."""

import itertools
import unittest

from chosenlast.errors import InvalidPaper
from chosenlast.kinds import is_scope
from chosenlast.paychecker import lets_pay
from chosenlast.paying import coins_for
from chosenlast.paypapers import pay_paper
from tests import reference
from tests.values import ANY_VALUES, COINS, full_table, subsets

P, Q, R, S = ("a", "p"), ("a", "q"), ("b", "r"), ("b", "s")
BIG, MON, TUE = ("room", "big"), ("time", "mon"), ("time", "tue")


class PayingTests(unittest.TestCase):

    def test_examples(self):
        self.assertEqual(coins_for(COINS, (MON, BIG)), (1, 0))
        self.assertIsNone(coins_for(COINS, (BIG, TUE)))
        self.assertEqual(pay_paper(COINS, (MON, BIG)), ("paid", (1, 0)))
        self.assertEqual(lets_pay(COINS, (BIG, TUE), ("few", (BIG, TUE))), "few")

    def test_no_pairs(self):
        for coins in ((), COINS, ((5, ()),)):
            self.assertEqual(coins_for(coins, ()), ())
            self.assertEqual(pay_paper(coins, ()), ("paid", ()))

    def test_no_coins(self):
        self.assertIsNone(coins_for((), (P,)))
        self.assertEqual(pay_paper((), (P,)), ("few", (P,)))
        self.assertIsNone(coins_for(((0, ()), (1, ())), (P,)))

    def test_coins_are_exchanged(self):
        coins = ((3, (P, Q)), (5, (P, R)), (8, (Q, R)), (9, (P,)))
        self.assertEqual(sorted(coins_for(coins[:3], (P, Q, R))), [3, 5, 8])
        self.assertEqual(coins_for(((0, (P, Q)), (1, (P,))), (P, Q)), (1, 0))
        self.assertEqual(coins_for(((0, (P, Q)), (1, (P,))), (Q, P)), (0, 1))
        # Each pair but the last takes the first coin that has it, and all of them have to move for the last one.
        chain = ((0, (P, Q)), (1, (Q, R)), (2, (R, S)), (3, (S,)))
        self.assertEqual(coins_for(chain, (Q, R, S, P)), (1, 2, 3, 0))
        self.assertEqual(coins_for(chain, (S, R, Q, P)), (3, 2, 1, 0))
        self.assertEqual(coins_for(tuple(reversed(chain)), (S, R, Q, P)), (3, 2, 1, 0))

    def test_more_pairs_than_coins(self):
        everything = (P, Q, R, S)
        coins = tuple((number, everything) for number in (2, 4, 6))
        self.assertEqual(sorted(coins_for(coins, (S, P, Q))), [2, 4, 6])
        self.assertIsNone(coins_for(coins, everything))
        self.assertEqual(pay_paper(coins, everything), ("few", everything))
        # Only some of the pairs are too many: Q and R for one coin.
        coins = ((0, (P, S)), (1, (P, S)), (2, (Q, R)))
        self.assertEqual(pay_paper(coins, (R, P, Q)), ("few", (Q, R)))

    def test_pairs_that_no_table_has(self):
        odd = ("zzzzzzzz", "a")
        self.assertEqual(coins_for(((0, (BIG, odd)),), (odd,)), (0,))
        self.assertIsNone(coins_for(COINS, (odd,)))
        self.assertEqual(pay_paper(COINS, (MON, odd)), ("few", (odd,)))
        self.assertEqual(lets_pay(((0, (BIG, odd)),), (odd,), ("paid", (0,))), "paid")
        self.assertEqual(lets_pay(COINS, (MON, odd), ("few", (odd,))), "few")

    def test_all_small_coins(self):
        scopes = subsets((P, Q, R))
        for size in range(4):
            for chosen in itertools.product(scopes, repeat=size):
                coins = tuple((2 * k + 1, scope) for k, scope in enumerate(chosen))
                for pairs in ((), (P,), (R,), (Q, P), (P, R), (R, Q, P), (P, Q, R), (S,), (P, S)):
                    self.check(coins, pairs)

    def test_at_the_limits(self):
        pairs = tuple(reference.pairs_of(full_table(4, 5, 24)))
        for step in range(1, 8):
            coins = tuple((number, tuple(sorted(pairs[number::step]))) for number in range(5))
            for chosen in itertools.combinations(pairs[::2], 5):
                self.check(coins, chosen)
            self.check(coins, tuple(reversed(pairs[:6])))
            self.check(coins, pairs)

    def test_many_coins(self):
        pairs = tuple((name, letter) for name in "abcdefgh" for letter in "abcdefgh")
        coins = tuple((k, pairs[max(0, k - 1):k + 1]) for k in range(64))
        # Coin k has the pairs k - 1 and k: each pair moves by one coin for the last one.
        self.assertEqual(coins_for(coins, pairs), tuple(range(64)))
        self.assertEqual(coins_for(coins, tuple(reversed(pairs))), tuple(reversed(range(64))))
        self.assertEqual(coins_for(coins, pairs[1:] + pairs[:1]), tuple(range(1, 64)) + (0,))
        self.assertEqual(pay_paper(coins[1:], pairs), ("few", pairs))

    def check(self, coins, pairs):
        numbers = coins_for(coins, pairs)
        paper = pay_paper(coins, pairs)
        self.assertIs(type(paper), tuple)
        self.assertEqual(len(paper), 2)
        self.assertIs(type(paper[1]), tuple)
        if numbers is None:
            self.assertFalse(reference.pays(coins, pairs))
            self.assertEqual(paper[0], "few")
        else:
            self.assertIs(type(numbers), tuple)
            self.assertTrue(reference.pays(coins, pairs))
            self.assertEqual(len(set(numbers)), len(pairs))
            self.assertTrue(all(pair in dict(coins)[number] for number, pair in zip(numbers, pairs)))
            self.assertEqual(lets_pay(coins, pairs, ("paid", numbers)), "paid")
            self.assertEqual(paper[0], "paid")
        self.assertEqual(lets_pay(coins, pairs, paper), paper[0])


class PayCheckerTests(unittest.TestCase):

    def refused(self, word, at, *arguments):
        with self.assertRaises(InvalidPaper) as caught:
            lets_pay(*arguments)
        self.assertEqual((caught.exception.word, caught.exception.at), (word, at), arguments)
        self.assertIs(type(caught.exception.at), int)

    def test_shape(self):
        for thing in ((), ("paid",), ("few",), ("paid", (1, 0), ()), ["paid", (1, 0)], ("paid", [1, 0]),
                      ("paid", (True, 0)), ("paid", (1, False)), ("paid", (-1, 0)), ("paid", ("1", "0")),
                      ("paid", (1, None)), ("paid", None), ("paid", 1), ("Paid", (1, 0)), ("few", [MON]),
                      ("few", (["time", "mon"],)), ("few", (TUE, MON)), ("few", (MON, MON)), ("few", MON),
                      ("few", (MON, None)), ("few", (("time", "Mon"),)), ("few", None), ("few", (MON,), ()),
                      ["few", (MON,)], (True, (1, 0)), (0, ()), ("", ()), ((1, 0), "paid"), ("none", ()),
                      ("paid", (MON, BIG)), ("few", (1, 0))):
            self.refused("shape", -1, COINS, (MON, BIG), thing)

    def test_any_value(self):
        for thing in ANY_VALUES:
            for paper in (thing, [thing], (thing,), (thing, ()), (thing, (1, 0)), ("paid", (1, 0), thing),
                          ("paid", thing), ("few", thing), ("paid", [thing]), ("few", [thing]), ("paid", (1, thing)),
                          ("paid", (thing, thing)), ("few", (P, thing)), ("few", (thing,)), (thing, thing)):
                expected = self.entry(COINS, (MON, BIG), paper)
                if expected is not None:
                    self.refused(*expected, COINS, (MON, BIG), paper)
                else:
                    self.assertEqual(lets_pay(COINS, (MON, BIG), paper), "paid")

    def entry(self, coins, pairs, thing):
        """Return the first entry of lets_pay that holds, or None."""
        if type(thing) is not tuple or len(thing) != 2 or type(thing[1]) is not tuple:
            return ("shape", -1)
        word, rest = thing
        if word == "paid" and all(type(number) is int and number >= 0 for number in rest):
            if len(rest) != len(pairs):
                return ("many", -1)
            for k, number in enumerate(rest):
                if number in rest[:k] or pairs[k] not in dict(coins).get(number, ()):
                    return ("coin", k)
            return None
        if word == "few" and is_scope(rest):
            for k, pair in enumerate(rest):
                if pair not in pairs:
                    return ("pair", k)
            touching = [scope for _, scope in coins if set(scope) & set(rest)]
            return None if len(touching) < len(rest) else ("enough", -1)
        return ("shape", -1)

    def test_many(self):
        for numbers in ((), (1,), (1, 0, 1), (7, 7, 7)):
            self.refused("many", -1, COINS, (MON, BIG), ("paid", numbers))
        self.refused("many", -1, COINS, (), ("paid", (0,)))

    def test_coin(self):
        pairs = (P, Q, R)
        coins = ((2, (P, Q, R)), (4, (Q,)), (6, (P, Q, R)))
        self.assertEqual(lets_pay(coins, pairs, ("paid", (2, 4, 6))), "paid")
        self.assertEqual(lets_pay(coins, pairs, ("paid", (6, 4, 2))), "paid")
        # No coin has the number.
        self.refused("coin", 0, coins, pairs, ("paid", (0, 4, 6)))
        self.refused("coin", 2, coins, pairs, ("paid", (2, 4, 10 ** 59)))
        # The number occurs earlier.
        self.refused("coin", 1, coins, pairs, ("paid", (2, 2, 6)))
        self.refused("coin", 2, coins, pairs, ("paid", (2, 4, 2)))
        self.refused("coin", 2, coins, pairs, ("paid", (6, 4, 6)))
        # The scope does not contain the pair.
        self.refused("coin", 0, coins, pairs, ("paid", (4, 2, 6)))
        self.refused("coin", 2, coins, pairs, ("paid", (2, 6, 4)))
        # The first one.
        self.refused("coin", 1, coins, pairs, ("paid", (2, 3, 4)))
        self.refused("coin", 0, coins, pairs, ("paid", (3, 3, 3)))
        # In the order of pairs.
        self.refused("coin", 0, COINS, (MON, BIG), ("paid", (0, 1)))

    def test_pair_and_enough(self):
        coins = ((2, (P,)), (4, (P, R)), (6, ()))
        self.assertEqual(lets_pay(coins, (R, Q, P), ("few", (Q,))), "few")
        self.assertEqual(lets_pay(coins, (R, Q, P), ("few", (P, Q, R))), "few")
        self.refused("pair", 0, coins, (Q, R), ("few", (P,)))
        self.refused("pair", 1, coins, (Q, R), ("few", (Q, ("a", "z"), R, S)))
        self.refused("pair", 2, coins, (Q, R), ("few", (Q, R, S)))
        self.refused("enough", -1, coins, (R, Q, P), ("few", ()))
        self.refused("enough", -1, coins, (R, Q, P), ("few", (R,)))
        self.refused("enough", -1, coins, (R, Q, P), ("few", (P, Q)))
        self.refused("enough", -1, coins, (R, Q, P), ("few", (P, R)))
        # After all pairs.
        self.refused("pair", 1, coins, (P, R), ("few", (P, Q)))
        self.refused("enough", -1, coins, (), ("few", ()))

    def test_exactly_one_word_is_accepted(self):
        scopes = ((), (P,), (P, Q), (Q, R), (P, Q, R))
        papers = [("few", some) for some in subsets((P, Q, R))]
        papers += [("paid", numbers) for size in range(4) for numbers in itertools.product(range(4), repeat=size)]
        for size in range(4):
            for chosen in itertools.combinations_with_replacement(scopes, size):
                coins = tuple(enumerate(chosen))
                for pairs in ((), (P,), (Q, P), (R, P), (R, P, Q)):
                    found = {self.word(coins, pairs, paper) for paper in papers} - {None}
                    self.assertEqual(found, {"paid" if reference.pays(coins, pairs) else "few"})

    def word(self, coins, pairs, paper):
        """Return the word of the paper if it is accepted, which point 25 must confirm, else None."""
        word, rest = paper
        if word == "paid":
            right = (len(rest) == len(pairs) and len(set(rest)) == len(rest) and set(rest) <= set(dict(coins))
                     and all(pair in dict(coins)[number] for number, pair in zip(rest, pairs)))
        else:
            right = set(rest) <= set(pairs) and sum(bool(set(scope) & set(rest)) for _, scope in coins) < len(rest)
        expected = self.entry(coins, pairs, paper)
        self.assertEqual(expected is None, right)
        if not right:
            self.refused(*expected, coins, pairs, paper)
            return None
        self.assertEqual(lets_pay(coins, pairs, paper), word)
        return word


if __name__ == "__main__":
    unittest.main()
