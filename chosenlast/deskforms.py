"""What the strings that a desk accepts ask for."""

from chosenlast.errors import InvalidText
from chosenlast.kinds import is_name
from chosenlast.rowreadings import read_log, read_row
from chosenlast.tablereadings import is_number_text


def read_request(text):
    """Return what the string asks for, a tuple that begins with a word, or None if it has none of the forms."""
    request = opening_of(text)
    if request is None:
        request = row_of(text)
    if request is None:
        request = query_of(text)
    return request


def opening_of(text):
    """Return ("world", table, offices) for the lines of a log without rows, otherwise None."""
    try:
        log = read_log(text.split("\n"))
    except InvalidText:
        return None
    if len(log) > 1:
        return None
    return log[0]


def row_of(text):
    """Return ("do", row) for the line of a row, otherwise None."""
    try:
        return ("do", read_row(text))
    except InvalidText:
        return None


def query_of(text):
    """Return (word,), (word, name) or (word, number) for a query or undo, otherwise None."""
    if text in ("undo", "count", "log", "widest", "rows"):
        return (text,)
    word, _, rest = text.partition(" ")
    if word in ("struck", "coins") and is_name(rest):
        return (word, rest)
    if word in ("run", "answers") and is_number_text(rest):
        return (word, int(rest))
    return None
