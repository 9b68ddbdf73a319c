"""Papers that show which coins must come home."""

from chosenlast.homes import home_sets
from chosenlast.removing import left_with, others_than
from chosenlast.safetypapers import safety_paper


def home_paper(table, struck, coins, coin):
    """Return a paper that shows a home set; None if there is none."""
    homes = home_sets(table, struck, coins, coin)
    if homes == ():
        return None
    numbers = homes[0]
    _, node = safety_paper(table, struck, left_with(coins, numbers, coin))
    papers = [safety_paper(table, struck, left_with(coins, others_than(numbers, number), coin)) for number in numbers]
    return (numbers, node, tuple(papers))
