"""Point 13: the papers that answer_paper returns."""

import unittest

from chosenlast.answerpapers import answer_paper
from chosenlast.errors import UnknownName, UnknownPair
from chosenlast.kinds import is_pair
from tests import reference
from tests.values import SMALL_TABLES, TABLE, WIDE, full_table, subsets

BIG, SMALL = ("room", "big"), ("room", "small")


class AnswerPaperTests(unittest.TestCase):

    def test_example(self):
        self.assertEqual(answer_paper((("a",), (("x",), ("y",))), (("a", "x"),), "a", ("y",)),
                         ("forced", "yes", ("y",), (("a", "x"), None)))

    def test_states(self):
        paper = answer_paper(TABLE, (BIG,), "time", ("tue",))
        self.assertEqual(paper[:2], ("forced", "no"))
        self.assertEqual(paper[3], (None, BIG, None, None))
        self.assertEqual(answer_paper(TABLE, (BIG,), "room", ("small",))[3], (BIG, BIG, None, None))
        paper = answer_paper(TABLE, (BIG,), "time", ("wed",))
        self.assertEqual(paper, ("open", ("small", "wed"), ("small", "mon")))
        self.assertEqual(answer_paper(TABLE, (BIG, SMALL), "time", ("wed",)), ("none", (BIG, BIG, SMALL, SMALL)))

    def test_none_and_all_chosen(self):
        for item, candidates in (("room", ("big", "small")), ("time", ("mon", "tue", "wed"))):
            self.assertEqual(answer_paper(TABLE, (SMALL,), item, candidates)[:2], ("forced", "yes"))
            self.assertEqual(answer_paper(TABLE, (SMALL,), item, ())[:2], ("forced", "no"))
            self.assertEqual(answer_paper(TABLE, (SMALL,), item, ())[3], (None,) * 4)

    def test_all_papers(self):
        for table in (*SMALL_TABLES, WIDE):
            for struck in subsets(reference.pairs_of(table)):
                for item, chosen in reference.questions(table):
                    self.check_paper(table, struck, item, chosen)

    def test_at_the_limits(self):
        table = full_table(4, 5, 24)
        for struck in subsets(reference.pairs_of(table)[::4]):
            for item, chosen in reference.questions(table)[::3]:
                self.check_paper(table, struck, item, chosen)

    def check_paper(self, table, struck, item, chosen):
        paper = answer_paper(table, struck, item, chosen)
        state = reference.state(table, struck, item, chosen)
        self.assertIs(type(paper), tuple)
        self.assertEqual(paper[0], state if state in ("open", "none") else "forced")
        self.assertEqual(len(paper), {"open": 3, "none": 2, "forced": 4}[paper[0]])
        if paper[0] == "forced":
            self.assertEqual(paper[1], state)
        if paper[0] != "open":
            self.assertIs(type(paper[-1]), tuple)
            self.assertTrue(all(reason is None or is_pair(reason) for reason in paper[-1]))
        self.assertTrue(reference.accepts_answer(table, struck, item, chosen, paper), paper)

    def test_errors(self):
        bad = ("room", "mon")
        for arguments, error, kept in (
                ((TABLE, (bad,), "year", ("old",)), UnknownName, "year"),
                ((TABLE, (bad,), "time", ("mon", "old", "xyz")), UnknownName, "old"),
                ((TABLE, (BIG, bad), "time", ("mon",)), UnknownPair, bad),
                ((TABLE, (BIG, SMALL), "time", ("big",)), UnknownName, "big")):
            with self.assertRaises(error) as caught:
                answer_paper(*arguments)
            self.assertIs(caught.exception.name if error is UnknownName else caught.exception.pair, kept)


if __name__ == "__main__":
    unittest.main()
