"""Points 15 and 16: the written forms."""

import unittest

from chosenlast.tabletexts import coin_text, scope_text, table_text
from tests.values import COIN_TOSS, COINS, TABLE


class TableTextTests(unittest.TestCase):

    def written(self, function, value, text):
        self.assertEqual(function(value), text)
        self.assertIs(type(function(value)), str)

    def test_tables(self):
        self.written(table_text, TABLE,
                     "items room,time\nrow big,mon\nrow big,tue\nrow small,mon\nrow small,wed")
        self.written(table_text, COIN_TOSS, "items a\nrow x\nrow y")

    def test_scopes(self):
        self.written(scope_text, (), "-")
        self.written(scope_text, (("room", "big"),), "room:big")
        self.written(scope_text, (("room", "big"), ("time", "mon"), ("time", "tue")), "room:big,time:mon,time:tue")

    def test_coins(self):
        self.written(coin_text, (3, (("room", "big"), ("time", "mon"))), "3=room:big,time:mon")
        self.written(coin_text, COINS[0], "0=room:big,time:tue")
        self.written(coin_text, (0, ()), "0=-")
        self.written(coin_text, (100, ()), "100=-")
        self.written(coin_text, (10 ** 60 - 1, ()), "9" * 60 + "=-")


if __name__ == "__main__":
    unittest.main()
