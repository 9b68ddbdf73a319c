"""The written forms of rows and logs."""

from chosenlast.programtexts import program_text
from chosenlast.rowforms import FORMS
from chosenlast.tabletexts import joined, scope_text, table_text


def row_line(row):
    """Return the line of a row."""
    parts = FORMS[row[0]]
    return " ".join([row[0]] + [part_text(parts[k], row[k + 1]) for k in range(len(parts))])


def part_text(part, thing):
    """Return the written form of a part of a row."""
    if part == "sender" and thing is None:
        return "-"
    if part in ("run", "number", "letter"):
        return str(thing)
    if part == "numbers":
        return joined([str(number) for number in thing])
    if part == "scope":
        return scope_text(thing)
    if part == "row":
        return joined(thing)
    if part == "program":
        return program_text(thing)
    return thing


def log_lines(log):
    """Return the list of the lines of a log."""
    word, table, offices = log[0]
    lines = [word + " " + joined(offices)]
    lines.extend(table_text(table).split("\n"))
    lines.extend([row_line(row) for row in log[1:]])
    return lines
