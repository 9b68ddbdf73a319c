"""A desk: a world that is led by strings and answers with strings."""

from chosenlast.errors import InvalidRow, InvalidStep
from chosenlast.deskforms import read_request
from chosenlast.rowtexts import row_line
from chosenlast.tabletexts import coin_text, joined, scope_text
from chosenlast.truths import rows_left
from chosenlast.worlds import World


class Desk:
    """A desk. It has no world until a string begins one."""

    def __init__(self):
        self._world = None
        self._started = 0
        self._finished = 0

    def say(self, row):
        """Do what the string asks for and return the answer; raise InvalidRow for a string that has no form."""
        self._started += 1
        try:
            request = read_request(row)
            if request is None or self._world is None and request[0] != "world":
                raise InvalidRow(row)
            if request[0] == "world":
                self._world = World(request[1], request[2])
                return "ok"
            return answer_to(self._world, request)
        finally:
            self._finished += 1

    def counts(self):
        """Return (started, finished): how many strings were started and how many were finished."""
        return (self._started, self._finished)


def answer_to(world, request):
    """Return the answer of the world to a request."""
    word = request[0]
    if word == "do":
        return row_answer(request[1], world.go(request[1]))
    if word == "undo":
        return row_line(world.undo())
    if word == "count":
        return str(len(world))
    if word == "log":
        return str(world)
    if word == "widest":
        return scope_text(world.widest_now())
    if word == "rows":
        return spaced([joined(row) for row in rows_left(world)])
    if word == "struck":
        return scope_text(world.office_now(request[1])[0])
    if word == "coins":
        return spaced([coin_text(coin) for coin in world.office_now(request[1])[1]])
    if word == "answers":
        return joined(world.answers_now(request[1]))
    return run_answer(world.runs_now(), request[1])


def row_answer(row, result):
    """Return the answer after a row was done and returned this result."""
    if row[0] in ("issue", "start"):
        return str(result)
    if row[0] == "answer":
        return joined(result)
    if row[0] == "arrive":
        return "yes" if result else "no"
    return "ok"


def run_answer(runs, number):
    """Return the path and the output of the run with this number."""
    if number >= len(runs):
        raise InvalidStep(number, "run")
    _, _, path, output = runs[number]
    return joined(path) + " " + joined(output)


def spaced(words):
    """Return the words with spaces between them, or - if there are none."""
    if not words:
        return "-"
    return " ".join(words)
