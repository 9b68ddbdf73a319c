"""The checkers of papers once more: each returns the first entry that holds, or None. They follow the document's words.

Walks are recursive here, and nodes are given out one by one, so that what is inside a faulty node is never looked at.
"""

from chosenlast.kinds import are_coins, is_name, is_number, is_pair, is_scope
from tests import reference

SHAPE = ("shape", -1)


def is_tuple(thing, part):
    return type(thing) is tuple and all(map(part, thing))


def is_names(thing):
    return is_tuple(thing, is_name)


def are_unsafe_parts(thing):
    return (type(thing) is tuple and len(thing) == 4 and thing[0] == "unsafe" and is_scope(thing[1])
            and is_tuple(thing[2], is_number) and is_tuple(thing[3], is_names))


def is_few(thing):
    return type(thing) is tuple and len(thing) == 2 and thing[0] == "few" and is_scope(thing[1])


def is_safe_node(thing):
    return (type(thing) is tuple and len(thing) == 2 and is_names(thing[0])
            and is_tuple(thing[1], lambda branch: is_few(branch) or is_safe_node(branch)))


def touching(coins, some):
    return sum(bool(set(scope) & set(some)) for _, scope in coins)


def pay(coins, pairs, numbers):
    """Return the first entry of lets_pay for ("paid", numbers)."""
    if len(numbers) != len(pairs):
        return ("many", -1)
    for k, number in enumerate(numbers):
        if number in numbers[:k] or pairs[k] not in dict(coins).get(number, ()):
            return ("coin", k)
    return None


def safety(table, struck, coins, thing):
    if are_unsafe_parts(thing):
        return unsafe(table, struck, coins, *thing[1:])
    if type(thing) is tuple and len(thing) == 2 and thing[0] == "safe" and is_safe_node(thing[1]):
        return safe(table, struck, coins, thing[1])
    return SHAPE


def unsafe(table, struck, coins, pairs, numbers, rows):
    for k, pair in enumerate(pairs):
        if pair not in reference.pairs_of(table):
            return ("pair", k)
    if not reference.breaks(table, struck, pairs):
        return ("breaks", -1)
    found = pay(coins, pairs, numbers)
    if found is not None:
        return found
    if len(rows) != len(pairs):
        return ("rows", -1)
    for k, (row, pair) in enumerate(zip(rows, pairs)):
        if row not in reference.alive(table, (*struck, *pairs[:k], *pairs[k + 1:])) or pair not in zip(table[0], row):
            return ("row", k)
    return None


def safe(table, struck, coins, node):
    for n, ((row, branches), way) in enumerate(safe_nodes(table, node, ())):
        if row not in reference.alive(table, (*struck, *way)):
            return ("row", n)
        if len(branches) != len(table[0]):
            return ("branches", n)
        for b, (branch, pair) in enumerate(zip(branches, zip(table[0], row))):
            if branch[0] == "few":
                if not set(branch[1]) <= {*way, pair} or touching(coins, branch[1]) >= len(branch[1]):
                    return ("few", (n, b))
    return None


def safe_nodes(table, node, way):
    yield node, way
    for branch, pair in zip(node[1], zip(table[0], node[0])):
        if branch[0] != "few":
            yield from safe_nodes(table, branch, (*way, pair))


def without(coins, numbers, coin):
    return tuple(sorted((*(other for other in coins if other[0] not in numbers), coin)))


def home(table, struck, coins, coin, thing):
    if not (type(thing) is tuple and len(thing) == 3 and is_tuple(thing[0], is_number) and is_safe_node(thing[1])
            and list(thing[0]) == sorted(set(thing[0])) and is_tuple(thing[2], are_unsafe_parts)):
        return SHAPE
    numbers, node, papers = thing
    for k, number in enumerate(numbers):
        if number not in dict(coins):
            return ("coin", k)
    found = safe(table, struck, without(coins, numbers, coin), node)
    if found is not None:
        return found
    if len(papers) != len(numbers):
        return ("papers", -1)
    for k, paper in enumerate(papers):
        if unsafe(table, struck, without(coins, set(numbers) - {numbers[k]}, coin), *paper[1:]) is not None:
            return ("paper", k)
    return None


def is_fewest_node(thing):
    return (type(thing) is tuple and len(thing) == 2 and are_unsafe_parts(thing[0])
            and is_tuple(thing[1], is_fewest_node))


def fewest(table, struck, coins, coin, size, thing):
    if not is_fewest_node(thing):
        return SHAPE
    for n, ((paper, branches), removed) in enumerate(fewest_nodes(thing, coin, ())):
        if unsafe(table, struck, without(coins, removed, coin), *paper[1:]) is not None:
            return ("paper", n)
        required = len(set(paper[2]) - {coin[0]}) if len(removed) < size - 1 else 0
        if len(branches) != required:
            return ("branches", n)
    return None


def fewest_nodes(node, coin, removed):
    yield node, removed
    for branch, number in zip(node[1], [number for number in node[0][2] if number != coin[0]]):
        yield from fewest_nodes(branch, coin, (*removed, number))


def is_program(thing):
    if type(thing) is not tuple or not thing:
        return False
    if thing[0] == "say":
        return len(thing) == 3 and is_name(thing[1]) and is_program(thing[2])
    if thing[0] == "ask":
        return len(thing) == 5 and is_name(thing[1]) and is_names(thing[2]) and all(map(is_program, thing[3:]))
    return thing == ("stop",)


def program_nodes(program_):
    inside = {"stop": (), "say": program_[2:], "ask": program_[3:]}[program_[0]]
    return [program_] + [node for part in inside for node in program_nodes(part)]


def program(table, thing):
    if not is_program(thing):
        return SHAPE
    for n, node in enumerate(program_nodes(thing)):
        if node[0] == "ask":
            if node[1] not in table[0]:
                return ("item", n)
            known = [name for item, name in reference.pairs_of(table) if item == node[1]]
            if list(node[2]) != sorted(set(node[2]) & set(known)):
                return ("chosen", n)
    return None


def is_reason(thing):
    return type(thing) is tuple and len(thing) == 2 and thing[0] in ("few", "none") and is_tuple(thing[1], is_pair)


def reach(table, struck, coins, program_, output, thing):
    if type(thing) is tuple and len(thing) == 3 and thing[0] == "can":
        if is_tuple(thing[1], lambda word: word in ("yes", "no")) and is_tuple(thing[2], is_number):
            return can(table, struck, coins, program_, output, *thing[1:])
    if type(thing) is tuple and len(thing) == 2 and thing[0] == "cannot" and is_tuple(thing[1], is_reason):
        return cannot(table, struck, coins, program_, output, thing[1])
    return SHAPE


def can(table, struck, coins, program_, output, path, numbers):
    if path not in reference.complete_paths(program_):
        return ("path", -1)
    if reference.walks(program_)[path][0] != output:
        return ("output", -1)
    if not reference.is_consistent(table, struck, program_, path):
        return ("consistent", -1)
    return pay(coins, reference.paid(table, struck, program_, path), numbers)


def cannot(table, struck, coins, program_, output, reasons):
    walks = reference.walks(program_)
    paths = [path for path in reference.complete_paths(program_) if walks[path][0] == output]
    if len(reasons) != len(paths):
        return ("many", -1)
    for r, (path, (word, pairs)) in enumerate(zip(paths, reasons)):
        if word == "few":
            if list(pairs) != sorted(set(pairs) & set(reference.paid(table, struck, program_, path))):
                return ("some", r)
            if touching(coins, pairs) >= len(pairs):
                return ("few", r)
        elif len(pairs) != len(table[1]):
            return ("rows", r)
        else:
            for k, (row, pair) in enumerate(zip(table[1], pairs)):
                if pair not in zip(table[0], row) or pair not in (
                        *struck, *reference.path_strikes(table, program_, path)):
                    return ("row", (r, k))
    return None


def is_of(thing, *parts):
    """Whether the value is a tuple of as many parts, each as its own function says."""
    return type(thing) is tuple and len(thing) == len(parts) and all(part(x) for part, x in zip(parts, thing))


def is_bool(thing):
    return type(thing) is bool


def first_unknown(table, pairs):
    return next((k for k, pair in enumerate(pairs) if pair not in reference.pairs_of(table)), None)


def bank(table, thing):
    if not is_of(thing, is_scope, are_coins, is_number, is_bool, lambda row: row is None or is_names(row)):
        return SHAPE
    reported, outside, following, is_called, row = thing
    k = first_unknown(table, reported)
    if k is not None:
        return ("pair", k)
    for k, (number, scope) in enumerate(outside):
        j = first_unknown(table, scope)
        if j is not None:
            return ("scope", (k, j))
        if not number < following:
            return ("number", k)
    if not len(reported) <= following - len(outside):
        return ("many", -1)
    if not reference.safe(table, reported, outside):
        return ("unsafe", -1)
    if row is None or is_called and len(outside) == 0 and row in reference.alive(table, reported):
        return None
    return ("row", -1)


def office(table, thing):
    if not is_of(thing, is_scope, are_coins, is_bool):
        return SHAPE
    struck, coins, is_called = thing
    k = first_unknown(table, struck)
    if k is not None:
        return ("pair", k)
    for k, (_, scope) in enumerate(coins):
        j = first_unknown(table, scope)
        if j is not None:
            return ("scope", (k, j))
    if is_called and coins:
        return ("called", -1)
    return None if reference.safe(table, struck, coins) else ("unsafe", -1)


def record(table, triples, thing):
    false = [[k for k, (*asked, word) in enumerate(triples) if reference.answer(table, row, *asked) != word]
             for row in table[1]]
    if is_of(thing, lambda word: word == "true", is_names):
        if thing[1] not in table[1]:
            return ("row", -1)
        found = false[table[1].index(thing[1])]
        return ("entry", found[0]) if found else None
    if is_of(thing, lambda word: word == "false", lambda indices: is_tuple(indices, is_number)):
        if len(thing[1]) != len(table[1]):
            return ("many", -1)
        return next((("index", k) for k, index in enumerate(thing[1]) if index not in false[k]), None)
    return SHAPE


def case(table, bank_, scope, thing):
    if not is_tuple(thing, lambda part: is_of(part, is_number, is_pair)):
        return SHAPE
    reported, outside, following, is_called, _ = bank_
    if is_called:
        return ("called", -1)
    scopes = {**dict(outside), following: scope}
    pairs = [pair for _, pair in thing]
    for k, (number, pair) in enumerate(thing):
        if k and thing[k - 1][0] >= number or number not in scopes:
            return ("number", k)
        if pair not in scopes[number]:
            return ("scope", k)
        if pairs.index(pair) < k:
            return ("pair", k)
    if not reference.breaks(table, reported, pairs):
        return ("break", -1)
    for k, pair in enumerate(pairs):
        if not any(pair in zip(table[0], row) for row in reference.alive(table,
                                                                         (*reported, *pairs[:k], *pairs[k + 1:]))):
            return ("needed", k)
    return None


def audit(world, thing):
    if not is_of(thing, is_names, lambda strikes: is_tuple(strikes, lambda part: is_tuple(part, is_scope))):
        return SHAPE
    row, strikes = thing
    table, chosen, runs = world.table_now(), world.bank_now()[4], world.runs_now()
    if row not in table[1]:
        return ("row", -1)
    if chosen not in (None, row):
        return ("choice", -1)
    if len(strikes) != len(runs):
        return ("runs", -1)
    for r, (scopes, (_, program_, path, _)) in enumerate(zip(strikes, runs)):
        asked = reference.walks(program_)[path][3]
        if len(scopes) != len(asked):
            return ("answers", r)
        for k, (scope, question) in enumerate(zip(scopes, asked)):
            if scope != reference.strikes(table, *question):
                return ("struck", (r, k))
            if set(scope) & set(zip(table[0], row)):
                return ("holds", (r, k))
    return None
