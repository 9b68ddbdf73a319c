"""The written forms of tables, scopes and coins."""


def table_text(table):
    """Return the lines of the table."""
    items, rows = table
    return "\n".join([line_text("items", items)] + [line_text("row", row) for row in rows])


def line_text(word, names):
    """Return a line of a table: a word, and names."""
    return word + " " + ",".join(names)


def scope_text(scope):
    """Return the written form of the scope."""
    return joined([item + ":" + candidate for item, candidate in scope])


def joined(words):
    """Return the words with commas between them, or - if there are none."""
    if not words:
        return "-"
    return ",".join(words)


def coin_text(coin):
    """Return the written form of the coin."""
    number, scope = coin
    return str(number) + "=" + scope_text(scope)
