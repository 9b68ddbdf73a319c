"""Papers that show that few coins are not enough to come home."""

from chosenlast.homes import fewest_home
from chosenlast.removing import left_with, others_than
from chosenlast.safetypapers import safety_paper


def fewest_paper(table, struck, coins, coin, size):
    """Return a paper that shows that fewer coins than size are not enough; None if they are."""
    fewest = fewest_home(table, struck, coins, coin)
    if fewest is not None and fewest < size:
        return None
    return fewest_node(table, struck, coins, coin, size - 1)


def fewest_node(table, struck, coins, coin, more):
    """Return the node for the coins that are left, of which this many more may come home."""
    paper = safety_paper(table, struck, left_with(coins, (), coin))
    branches = []
    if more > 0:
        for number in others_than(paper[2], coin[0]):
            left = tuple([other for other in coins if other[0] != number])
            branches.append(fewest_node(table, struck, left, coin, more - 1))
    return (paper, tuple(branches))
