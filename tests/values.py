"""Values that several tests use, and what several tests ask of them."""

import itertools

# The example table of the document.
TABLE = (("room", "time"), (("big", "mon"), ("big", "tue"), ("small", "mon"), ("small", "wed")))
COINS = ((0, (("room", "big"), ("time", "tue"))), (1, (("time", "mon"),)))

COIN_TOSS = (("a",), (("x",), ("y",)))
SQUARE = (("a", "b"), (("x", "x"), ("x", "y"), ("y", "x"), ("y", "y")))
DIAGONAL = (("a", "b"), (("p", "q"), ("q", "r"), ("r", "p")))
WIDE = (("abcdefgh", "b", "c"), (("a", "u", "s"), ("a", "v", "t"), ("b", "u", "t"), ("c", "w", "s"), ("c", "w", "t")))
SMALL_TABLES = (TABLE, COIN_TOSS, SQUARE, DIAGONAL)


def nested(kind, depth):
    """Return an empty tuple or list inside as many others of its kind."""
    thing = kind()
    for _ in range(depth):
        thing = kind([thing])
    return thing


# One or more values of every kind that "any value" tells.
ANY_VALUES = (
    0, 1, 2, -1, 10 ** 60 - 1, 1 - 10 ** 60, True, False, None,
    "", "a", "ab", "abcdefgh", "abcdefghi", "A", "aB", "a1", "1", " a", "a ", "a\n", "\n", "-", "a:b", "~" * 4000,
    "yes", "no", "open", "forced", "none", "paid", "few", "shape",
    (), [], ((),), ([],), [()], [[]], ("a",), ["a"], ("a", "b"), ["a", "b"], ("a", "b", "c"), ("b", "a"), ("a", "a"),
    ("a", ""), ("a", 1), ("a", None), (1, 2), (0, ()), (0, []), (True, ()), (None, None), (("a", "b"),), [("a", "b")],
    (["a", "b"],), (("a", "b"), ("a", "b")), (("a", "c"), ("a", "b")), (("a", "b"), ("a", "c")), (("a", "b"), None),
    ((0, ()),), ((0, ()), (0, ())), ((1, ()), (0, ())), ((0, ()), (1, ())), (("a",), ()), (("a",), (("x",), ("y",))),
    nested(tuple, 29), nested(list, 29), (0,) * 4999, [None] * 4999, ("a",) * 4999,
)


def same(left, right):
    """Whether the values are equal, the kinds of all elements included (True is not 1)."""
    if type(left) is not type(right):
        return False
    if isinstance(left, (tuple, list)):
        return len(left) == len(right) and all(map(same, left, right))
    return left == right


def copied(thing):
    """Return an equal value in which every list and tuple is another object."""
    if isinstance(thing, tuple):
        return tuple([copied(element) for element in thing])
    if isinstance(thing, list):
        return [copied(element) for element in thing]
    return thing


def subsets(things):
    """Return all subsets of the things as tuples in the same order."""
    sizes = range(len(things) + 1)
    return [chosen for size in sizes for chosen in itertools.combinations(things, size)]


def full_table(items, candidates, rows=None):
    """Return a table of the first so many of all rows that there are, spread evenly over them."""
    names = tuple("abcdefgh"[:items])
    every = list(itertools.product("pqrstuvw"[:candidates], repeat=items))
    count = len(every) if rows is None else rows
    return (names, tuple([every[k * len(every) // count] for k in range(count)]))
