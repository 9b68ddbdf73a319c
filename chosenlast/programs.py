"""Programs and their paths.

A program that was read from a text can be deeper than a recursion may go; so everything here goes through it in loops.
"""

from chosenlast.kinds import is_answer


def is_path(program, thing):
    """Return whether the value is a path of the program, complete or not."""
    if not isinstance(thing, tuple):
        return False
    for answer in thing:
        _, question = said_first(program)
        if question[0] == "stop" or not is_answer(answer):
            return False
        program = answered(question, answer)
    return True


def paths_of(program):
    """Return all complete paths of the program, ascending."""
    paths = []
    waiting = [(program, ())]
    while waiting:
        rest, path = waiting.pop()
        _, question = said_first(rest)
        if question[0] == "stop":
            paths.append(path)
        else:
            # What is put there last is taken first: all paths with "no" come before those with "yes".
            waiting.append((answered(question, "yes"), (*path, "yes")))
            waiting.append((answered(question, "no"), (*path, "no")))
    return tuple(paths)


def output_of(program, path):
    """Return the words that are said on the path before its next question or its end."""
    output, question = said_first(program)
    for answer in path:
        words, question = said_first(answered(question, answer))
        output.extend(words)
    return tuple(output)


def next_question(program, path):
    """Return (item, chosen) of the question that follows the path, or None if the path is complete."""
    _, question = said_first(program_after(program, path))
    if question[0] == "stop":
        return None
    return (question[1], question[2])


def program_after(program, path):
    """Return the program that follows the last answer of the path; the program itself for the empty path."""
    for answer in path:
        _, question = said_first(program)
        program = answered(question, answer)
    return program


def said_first(program):
    """Return the list of the words that the program says at first, and the ask or the stop that follows them."""
    words = []
    while program[0] == "say":
        words.append(program[1])
        program = program[2]
    return words, program


def answered(question, answer):
    """Return the program that follows this answer to an ask."""
    if answer == "yes":
        return question[3]
    return question[4]


def questions_on(program, path):
    """Return the list of (item, chosen, answer) of the answers of the path, in order."""
    questions = []
    for answer in path:
        _, question = said_first(program)
        questions.append((question[1], question[2], answer))
        program = answered(question, answer)
    return questions


def paths_with(program, output):
    """Return the list of all complete paths with this output, ascending."""
    return [path for path in paths_of(program) if output_of(program, path) == output]


def nodes_of(program):
    """Return the list of all nodes of the program in preorder."""
    nodes = []
    waiting = [program]
    while waiting:
        node = waiting.pop()
        nodes.append(node)
        waiting.extend(inner_programs(node)[::-1])
    return nodes


def inner_programs(node):
    """Return the programs directly inside a node, in preorder."""
    if node[0] == "stop":
        return ()
    if node[0] == "say":
        return (node[2],)
    return (node[3], node[4])
