"""Reading the written forms of tables, scopes and coins."""

from chosenlast.errors import InvalidText
from chosenlast.kinds import is_name, is_pair

DIGITS = "0123456789"
MOST_DIGITS = 60


def read_table(text):
    """Return the table that the text writes; raise InvalidText for any other text."""
    return read_table_lines(text.split("\n"), 0)


def read_table_lines(lines, first):
    """Return the table that these lines, at least one, write; first is the index of the first one."""
    items = read_items(lines[0], first)
    rows = []
    for k in range(1, len(lines)):
        rows.append(read_table_row(items, rows, lines[k], first + k))
    if not have_two_candidates(items, rows):
        # What is missing is another line.
        raise InvalidText(first + len(lines), 0)
    return (items, tuple(rows))


def fields_of(line):
    """Return the part before the first space, and the parts between the commas after it."""
    word, space, rest = line.partition(" ")
    if not space:
        return [word]
    return [word] + rest.split(",")


def read_items(line, at):
    """Return the items that the line with index at writes."""
    fields = fields_of(line)
    if fields[0] != "items":
        raise InvalidText(at, 0)
    for k in range(1, len(fields)):
        if not is_name(fields[k]) or k > 1 and not fields[k - 1] < fields[k]:
            raise InvalidText(at, k)
    if len(fields) == 1:
        raise InvalidText(at, 1)
    return tuple(fields[1:])


def read_table_row(items, rows, line, at):
    """Return the row that the line with index at writes, after these rows."""
    fields = fields_of(line)
    if fields[0] != "row":
        raise InvalidText(at, 0)
    names = fields[1:]
    for k in range(len(names)):
        if k >= len(items) or not is_name(names[k]):
            raise InvalidText(at, k + 1)
        if rows and shows_fall(rows[-1], names, k):
            raise InvalidText(at, k + 1)
    if len(names) < len(items):
        raise InvalidText(at, len(fields))
    return tuple(names)


def shows_fall(before, names, k):
    """Whether name k shows that the names, whatever follows it, are no row greater than the one before."""
    if tuple(names[:k]) != before[:k]:
        return False
    return names[k] < before[k] or names[k] == before[k] and k == len(before) - 1


def have_two_candidates(items, rows):
    """Whether each item has at least two candidates in these rows."""
    return all([len(set([row[i] for row in rows])) >= 2 for i in range(len(items))])


def read_scope(text):
    """Return the scope that the text writes; raise InvalidText for any other text."""
    return read_scope_from(text, 0)


def read_scope_from(text, first):
    """Return the scope that the text writes; first is the index of its first field."""
    if text == "-":
        return ()
    pairs = []
    for field in text.split(","):
        item, _, candidate = field.partition(":")
        pair = (item, candidate)
        if not is_pair(pair) or pairs and not pairs[-1] < pair:
            raise InvalidText(0, first + len(pairs))
        pairs.append(pair)
    return tuple(pairs)


def read_coin(text):
    """Return the coin that the text writes; raise InvalidText for any other text."""
    word, sign, rest = text.partition("=")
    if not is_number_text(word):
        raise InvalidText(0, 0)
    if not sign:
        raise InvalidText(0, 1)
    return (int(word), read_scope_from(rest, 1))


def is_number_text(word):
    """Whether the word is a number of at most sixty digits, without a sign and without leading zeros."""
    if not 1 <= len(word) <= MOST_DIGITS or not all([letter in DIGITS for letter in word]):
        return False
    return word == "0" or word[0] != "0"
