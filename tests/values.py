"""Values that several tests use, and what several tests ask of them."""

import itertools

from chosenlast.errors import ChosenError, InvalidPaper
from tests import reference

# The example table of the document.
TABLE = (("room", "time"), (("big", "mon"), ("big", "tue"), ("small", "mon"), ("small", "wed")))
COINS = ((0, (("room", "big"), ("time", "tue"))), (1, (("time", "mon"),)))

# The example program and the example coin of one more.
PROGRAM = ("ask", "room", ("big",),
           ("say", "large", ("ask", "time", ("mon",), ("say", "early", ("stop",)), ("stop",))),
           ("stop",))
MORE = (2, (("room", "small"),))

COIN_TOSS = (("a",), (("x",), ("y",)))
SQUARE = (("a", "b"), (("x", "x"), ("x", "y"), ("y", "x"), ("y", "y")))
DIAGONAL = (("a", "b"), (("p", "q"), ("q", "r"), ("r", "p")))
WIDE = (("abcdefgh", "b", "c"), (("a", "u", "s"), ("a", "v", "t"), ("b", "u", "t"), ("c", "w", "s"), ("c", "w", "t")))
SMALL_TABLES = (TABLE, COIN_TOSS, SQUARE, DIAGONAL)


def nested(kind, depth):
    """Return an empty tuple or list inside as many others of its kind."""
    thing = kind()
    for _ in range(depth):
        thing = kind([thing])
    return thing


# One or more values of every kind that "any value" tells.
ANY_VALUES = (
    0, 1, 2, -1, 10 ** 60 - 1, 1 - 10 ** 60, True, False, None,
    "", "a", "ab", "abcdefgh", "abcdefghi", "A", "aB", "a1", "1", " a", "a ", "a\n", "\n", "-", "a:b", "~" * 4000,
    "yes", "no", "open", "forced", "none", "paid", "few", "shape",
    (), [], ((),), ([],), [()], [[]], ("a",), ["a"], ("a", "b"), ["a", "b"], ("a", "b", "c"), ("b", "a"), ("a", "a"),
    ("a", ""), ("a", 1), ("a", None), (1, 2), (0, ()), (0, []), (True, ()), (None, None), (("a", "b"),), [("a", "b")],
    (["a", "b"],), (("a", "b"), ("a", "b")), (("a", "c"), ("a", "b")), (("a", "b"), ("a", "c")), (("a", "b"), None),
    ((0, ()),), ((0, ()), (0, ())), ((1, ()), (0, ())), ((0, ()), (1, ())), (("a",), ()), (("a",), (("x",), ("y",))),
    nested(tuple, 29), nested(list, 29), (0,) * 4999, [None] * 4999, ("a",) * 4999,
)


def same(left, right):
    """Whether the values are equal, the kinds of all elements included (True is not 1)."""
    if type(left) is not type(right):
        return False
    if isinstance(left, (tuple, list)):
        return len(left) == len(right) and all(map(same, left, right))
    return left == right


def outcome(function, *arguments, **named):
    """Return what the call returns, or its error with its fields."""
    try:
        return ("returned", function(*arguments, **named))
    except ChosenError as error:
        return ("raised", type(error).__name__, tuple(sorted(vars(error).items())))


def checked(checker, *arguments):
    """Return what the checker returns, or the pair (word, at) of the InvalidPaper that it raises."""
    try:
        return checker(*arguments)
    except InvalidPaper as error:
        return (error.word, error.at)


def variants(thing):
    """Yield many values that differ from this one in one part."""
    if isinstance(thing, str):
        yield from ("", "big", "small", "mon", "wed", "room", "time", "yes", "no", "few", "none", "Big", 0, None)
    elif isinstance(thing, int):
        yield from (thing + 1, thing - 1, -thing - 1, bool(thing), str(thing), (thing,), None)
    elif isinstance(thing, tuple):
        yield from (list(thing), (thing,), thing[::-1], (), None, 0, "few", ("few", ()), ("room", "big"))
        for k in range(len(thing)):
            yield thing[:k] + thing[k + 1:]
            yield thing[:k + 1] + thing[k:]
            yield thing[:k] + thing[k + 1:k + 2] + thing[k:k + 1] + thing[k + 2:]
            for part in variants(thing[k]):
                yield (*thing[:k], part, *thing[k + 1:])


def copied(thing):
    """Return an equal value in which every list and tuple is another object."""
    if isinstance(thing, tuple):
        return tuple([copied(element) for element in thing])
    if isinstance(thing, list):
        return [copied(element) for element in thing]
    return thing


def subsets(things):
    """Return all subsets of the things as tuples in the same order."""
    sizes = range(len(things) + 1)
    return [chosen for size in sizes for chosen in itertools.combinations(things, size)]


def full_table(items, candidates, rows=None):
    """Return a table of the first so many of all rows that there are, spread evenly over them."""
    names = tuple("abcdefgh"[:items])
    every = list(itertools.product("pqrstuvw"[:candidates], repeat=items))
    count = len(every) if rows is None else rows
    return (names, tuple([every[k * len(every) // count] for k in range(count)]))


def coins_of(*scopes):
    """Return coins with these scopes and with numbers that are not the places."""
    return tuple((3 * k + 2, scope) for k, scope in enumerate(scopes))


def sample_coins(table):
    """Return many coins for a small table."""
    pairs = reference.pairs_of(table)
    scopes = ((), tuple(pairs[:1]), tuple(pairs[1:3]), tuple(pairs[::2]), tuple(pairs[-2:]), tuple(pairs))
    return [coins_of(*chosen) for size in range(4) for chosen in itertools.combinations_with_replacement(scopes, size)]


def limit_coins():
    """Yield tables with twenty-four rows or almost so many, each with five coins."""
    for table in (full_table(4, 5, 24), full_table(4, 5, 23), full_table(3, 5, 24), full_table(4, 3, 24)):
        pairs = tuple(reference.pairs_of(table))
        for scopes in ((pairs,) * 5, (pairs[1:],) * 5, (pairs[:5],) * 5, (pairs[:4],) * 5, (pairs[2:6],) * 5,
                       [pairs[k::5] for k in range(5)], [pairs[k::4] for k in range(5)],
                       [pairs[k:k + 3] for k in range(5)], [pairs[k:k + 1] for k in range(5)]):
            yield table, coins_of(*scopes)


def drawn_table(draw, items, candidates, rows):
    """Return a table of the first so many items, with rows that are drawn; each item has two candidates at least."""
    every = list(itertools.product("pqrstuvw"[:candidates], repeat=items))
    while True:
        chosen = tuple(sorted(draw.sample(every, rows)))
        if all(len(set(column)) > 1 for column in zip(*chosen)):
            return (tuple("abcdefgh"[:items]), chosen)


def drawn_scope(draw, pairs, most):
    """Return a scope of at most so many of the pairs."""
    return tuple(sorted(draw.sample(list(pairs), draw.randint(0, min(most, len(pairs))))))


def drawn_program(draw, questions, asks, depth):
    """Return a program with so many asks at most, so many of them on a path, and questions of these."""
    if draw.random() < 0.3:
        return ("say", draw.choice(("hi", "ho", "stop")), drawn_program(draw, questions, asks, depth))
    if asks == 0 or depth == 0:
        return ("stop",)
    left = draw.randint(0, asks - 1)
    return ("ask", *draw.choice(questions), drawn_program(draw, questions, left, depth - 1),
            drawn_program(draw, questions, asks - 1 - left, depth - 1))


def deep_program(questions):
    """Return a program that asks these questions one after the other, whatever the answers, and tells them apart."""
    program = ("stop",)
    for item, chosen in reversed(questions):
        program = ("ask", item, chosen, ("say", "yes", program), ("say", "no", ("stop",)))
    return program


def limit_program(questions):
    """Return a program with sixteen nodes that asks these six questions on a path."""
    program = ("stop",)
    for k, (item, chosen) in enumerate(reversed(questions)):
        if k % 2 == 0:
            program = ("ask", item, chosen, program, ("stop",))
        else:
            program = ("say", "abc"[k // 2], ("ask", item, chosen, ("stop",), program))
    return program
