"""Reading the written forms of rows and logs."""

from chosenlast.errors import InvalidText
from chosenlast.kinds import is_answer, is_name, is_rising
from chosenlast.programreadings import fields_and_end, read_program_from
from chosenlast.rowforms import FORMS
from chosenlast.tablereadings import is_number_text, read_scope, read_table_lines


def read_row(text):
    """Return the row that the text writes; raise InvalidText for any other text."""
    return read_row_line(text, 0)


def read_log(lines):
    """Return the log that the lines write; raise InvalidText for any other lines."""
    if not lines:
        raise InvalidText(0, 0)
    offices = read_offices(lines[0])
    if len(lines) == 1:
        raise InvalidText(1, 0)
    end = 2
    while end < len(lines) and lines[end].startswith("row "):
        end += 1
    table = read_table_lines(lines[1:end], 1)
    rows = [read_row_line(lines[k], k) for k in range(end, len(lines))]
    return (("world", table, offices), *rows)


def read_offices(line):
    """Return the names of the offices that line 0 writes."""
    fields = fields_and_end(line)
    if fields[0] != "world":
        raise InvalidText(0, 0)
    names = fields[1].split(",")
    if not is_rising(names) or not all([is_name(name) for name in names]):
        raise InvalidText(0, 1)
    if len(fields) > 3:
        raise InvalidText(0, 2)
    return tuple(names)


def read_row_line(text, line):
    """Return the row that the text of this line writes."""
    fields = fields_and_end(text)
    if fields[0] not in FORMS:
        raise InvalidText(line, 0)
    row = [fields[0]]
    for part in FORMS[fields[0]]:
        if part == "program":
            # A program takes all the fields that are left.
            return (*row, read_program_from(fields, len(row), line))
        row.append(read_part(part, fields[len(row)], line, len(row)))
    if len(row) < len(fields) - 1:
        raise InvalidText(line, len(row))
    return tuple(row)


def read_part(part, field, line, at):
    """Return the part of a row that the field writes; raise InvalidText with its place if it writes none."""
    if part in ("office", "other", "sender") and is_name(field):
        return field
    if part == "sender" and field == "-":
        return None
    if part in ("run", "number", "letter") and is_number_text(field):
        return int(field)
    if part == "answer" and is_answer(field):
        return field
    if part == "numbers" and are_number_texts(elements_of(field)):
        return tuple([int(word) for word in elements_of(field)])
    if part == "row" and all([is_name(name) for name in elements_of(field)]):
        return tuple(elements_of(field))
    if part == "scope" and is_scope_text(field):
        return read_scope(field)
    raise InvalidText(line, at)


def elements_of(field):
    """Return the list of the elements of a field: what stands between the commas, or nothing for -."""
    if field == "-":
        return []
    return field.split(",")


def are_number_texts(words):
    """Whether all these words are written numbers."""
    return all([is_number_text(word) for word in words])


def is_scope_text(field):
    """Whether the field is the written form of a scope."""
    try:
        read_scope(field)
    except InvalidText:
        return False
    return True
