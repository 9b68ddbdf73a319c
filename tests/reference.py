"""The definitions of the document, put into code once more and in another way, to compare with."""

import itertools


def pairs_of(table):
    items, rows = table
    return sorted({pair for row in rows for pair in zip(items, row)})


def alive(table, struck):
    items, rows = table
    return tuple(row for row in rows if not set(zip(items, row)) & set(struck))


def dead(table, struck):
    items, _ = table
    living = {pair for row in alive(table, struck) for pair in zip(items, row)}
    return tuple(pair for pair in pairs_of(table) if pair not in living)


def answer(table, row, item, chosen):
    return "yes" if dict(zip(table[0], row))[item] in chosen else "no"


def strikes(table, item, chosen, word):
    return tuple(p for p in pairs_of(table) if p[0] == item and (p[1] in chosen) == (word == "no"))


def state(table, struck, item, chosen):
    words = sorted({answer(table, row, item, chosen) for row in alive(table, struck)})
    if len(words) == 2:
        return "open"
    return words[0] if words else "none"


def questions(table):
    """Return all questions about the table."""
    found = []
    for item in table[0]:
        names = [name for other, name in pairs_of(table) if other == item]
        for size in range(len(names) + 1):
            found.extend((item, chosen) for chosen in itertools.combinations(names, size))
    return found


def accepts_answer(table, struck, item, chosen, thing):
    """Whether a value is an answer paper, by the words of point 13 alone."""
    items, rows = table

    def explains(row, reason):
        return reason is not None and reason in set(struck) & set(zip(items, row))

    if thing[0] == "forced":
        _, word, shown, reasons = thing
        return (shown in alive(table, struck) and answer(table, shown, item, chosen) == word
                and len(reasons) == len(rows)
                and all(reason is None if answer(table, row, item, chosen) == word else explains(row, reason)
                        for row, reason in zip(rows, reasons)))
    if thing[0] == "open":
        return all(row in alive(table, struck) and answer(table, row, item, chosen) == word
                   for row, word in zip(thing[1:], ("yes", "no")))
    return len(thing[1]) == len(rows) and all(map(explains, rows, thing[1]))


def pays(coins, pairs):
    """Return whether each of the pairs can have a coin of its own, by trying all coins for the first pair."""
    if not pairs:
        return True
    return any(pairs[0] in coins[k][1] and pays(coins[:k] + coins[k + 1:], pairs[1:]) for k in range(len(coins)))


def breaks(table, struck, pairs):
    return alive(table, (*struck, *pairs)) == ()


def least_breakings(table, struck):
    pairs = pairs_of(table)
    for size in range(len(pairs) + 1):
        found = tuple(some for some in itertools.combinations(pairs, size) if breaks(table, struck, some))
        if found:
            return found
    return None


def safe(table, struck, coins):
    """Return whether no pairs of the table that the coins can pay break it, by trying all pairs."""
    pairs = pairs_of(table)
    return not any(breaks(table, struck, some) and pays(coins, some)
                   for size in range(min(len(coins), len(pairs)) + 1)
                   for some in itertools.combinations(pairs, size))


def widest(table, struck, coins):
    """Return the widest scope, by adding one coin of each single pair."""
    if not safe(table, struck, coins):
        return None
    return tuple(pair for pair in pairs_of(table) if safe(table, struck, (*coins, (10 ** 9, (pair,)))))


def home_sets(table, struck, coins, coin):
    """Return the home sets, by trying all sets of numbers."""
    def is_enough(numbers):
        return safe(table, struck, (*(other for other in coins if other[0] not in numbers), coin))

    every = [other[0] for other in coins]
    enough = [set(some) for size in range(len(every) + 1) for some in itertools.combinations(every, size)
              if is_enough(some)]
    return tuple(sorted(tuple(sorted(some)) for some in enough if not any(other < some for other in enough)))


def walks(program):
    """Return a dict from all paths, complete or not, to (output, next question, program after, asked)."""
    words, rest = (), program
    while rest[0] == "say":
        words, rest = (*words, rest[1]), rest[2]
    if rest[0] == "stop":
        return {(): (words, None, program, ())}
    _, item, chosen, *inner = rest
    found = {(): (words, (item, chosen), program, ())}
    for word, follows in zip(("yes", "no"), inner):
        for path, (output, question, after, asked) in walks(follows).items():
            found[(word, *path)] = (words + output, question, after, ((item, chosen, word), *asked))
    return found


def complete_paths(program):
    return sorted(path for path, (_, question, _, _) in walks(program).items() if question is None)


def path_strikes(table, program, path):
    return [pair for asked in walks(program)[path][3] for pair in strikes(table, *asked)]


def is_consistent(table, struck, program, path):
    return alive(table, (*struck, *path_strikes(table, program, path))) != ()


def paid(table, struck, program, path):
    """Return the paid pairs of a path, by the words of points 4 and 6."""
    found, struck = [], list(struck)
    for asked in walks(program)[path][3]:
        found += [pair for pair in strikes(table, *asked) if pair not in dead(table, struck)]
        struck += strikes(table, *asked)
    assert len(found) == len(set(found))
    return tuple(sorted(found))


def is_open(table, struck, coins, program, path):
    return is_consistent(table, struck, program, path) and pays(coins, paid(table, struck, program, path))


def least_bills(table, struck, program, output):
    bills = {paid(table, struck, program, path) for path in complete_paths(program)
             if walks(program)[path][0] == output and is_consistent(table, struck, program, path)}
    return tuple(sorted(bill for bill in bills if not any(set(other) < set(bill) for other in bills)))
