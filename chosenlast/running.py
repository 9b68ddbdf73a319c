"""Runs of programs on the rows of a table."""

from chosenlast.programs import answered, said_first
from chosenlast.questions import answer_at


def run_on(table, row, program):
    """Return (path, output) of the run of the program on the row."""
    path = []
    output, question = said_first(program)
    while question[0] == "ask":
        answer = answer_at(row, table[0].index(question[1]), question[2])
        words, question = said_first(answered(question, answer))
        path.append(answer)
        output.extend(words)
    return (tuple(path), tuple(output))


def agrees(table, row, program, path):
    """Return whether the path is the beginning of the run on the row."""
    return run_on(table, row, program)[0][:len(path)] == path
