"""Worlds: a bank, offices, letters and runs, which change step by step."""

from chosenlast.ahead import answers_ahead, outputs_ahead
from chosenlast.errors import ChosenError, InvalidStep, NothingToUndo, UnknownName
from chosenlast.programs import output_of
from chosenlast.rowtexts import log_lines, row_line
from chosenlast.safety import widest_scope
from chosenlast.states import copy_of, first_state, places_of
from chosenlast.worldsteps import do_row, reason_against


class World:
    """A world with a table and offices. Two worlds are equal if their logs are."""

    def __init__(self, table, offices):
        items, rows = table
        self._table = (items, rows)
        self._names = tuple(list(offices))
        self._rows = []
        # The lines of the log. They tell logs apart, because reading them gives the log back.
        self._lines = log_lines((("world", table, offices),))
        # The state at first, and the one after each row.
        self._states = [first_state(offices)]
        self._started = 0
        self._finished = 0

    def issue_coin(self, office, scope):
        """Issue a coin with this scope to the office; return its number."""
        return self.go(("issue", office, scope))

    def start_run(self, office, program):
        """Start a run of the program at the office; return its number."""
        return self.go(("start", office, program))

    def give_answer(self, run, answer, numbers):
        """Answer the next question of the run, paid with these coins; return the words that it says then."""
        return self.go(("answer", run, answer, numbers))

    def pass_coin(self, office, other, number):
        """Send a coin of the office to the other office."""
        return self.go(("pass", office, other, number))

    def return_coin(self, office, number):
        """Send a coin of the office back to the bank."""
        return self.go(("return", office, number))

    def narrow_coin(self, office, number, scope):
        """Narrow the scope of a coin of the office."""
        return self.go(("narrow", office, number, scope))

    def send_news(self, sender, office):
        """Send the struck pairs of the sender, or the reported pairs if it is None, to the office."""
        return self.go(("news", sender, office))

    def let_arrive(self, letter):
        """Let the letter with this number arrive; return whether this is its first arrival."""
        return self.go(("arrive", letter))

    def call_all(self):
        """Let the bank call."""
        return self.go(("call",))

    def choose_row(self, row):
        """Let the bank choose the row."""
        return self.go(("choose", row))

    def go(self, row):
        """Do the row, which may be any value, and return what it returns."""
        self._started += 1
        try:
            return self._do(row)
        finally:
            self._finished += 1

    def do_all(self, rows, *, keep=False):
        """Do the rows in order; return how many they are. If one cannot be done, none is kept, unless keep is True."""
        self._started += 1
        many = len(self._rows)
        try:
            for row in rows:
                self._do(row)
            return len(rows)
        except ChosenError:
            if not keep:
                self._go_back(many)
            raise
        finally:
            self._finished += 1

    def undo(self):
        """Make the world as it was before the last row; return this row."""
        self._started += 1
        try:
            if not self._rows:
                raise NothingToUndo(0)
            row = self._rows[-1]
            self._go_back(len(self._rows) - 1)
            return row
        finally:
            self._finished += 1

    def table_now(self):
        """Return the table."""
        items, rows = self._table
        return (items, rows)

    def bank_now(self):
        """Return the bank."""
        reported, outside, following, is_called, row = self._states[-1].bank
        return (reported, outside, following, is_called, row)

    def office_now(self, office):
        """Return the office; raise UnknownName for another name."""
        if office not in self._names:
            raise UnknownName(office)
        struck, coins, is_called = self._states[-1].offices[office]
        return (struck, coins, is_called)

    def letters_now(self):
        """Return (number, letter) of all letters that have not arrived, ascending."""
        state = self._states[-1]
        return tuple([(k, state.letters[k]) for k in range(len(state.letters)) if not state.arrived[k]])

    def runs_now(self):
        """Return (office, program, path, output) of each run."""
        runs = self._states[-1].runs
        return tuple([(office, program, path, output_of(program, path)) for office, program, path in runs])

    def places_now(self):
        """Return (number, place) of all coins that were issued, ascending."""
        return places_of(self._states[-1])

    def widest_now(self):
        """Return the widest scope, given the reported pairs and the coins outside."""
        bank = self._states[-1].bank
        return widest_scope(self._table, bank[0], bank[1])

    def answers_now(self, run):
        """Return the answers that are possible now for the run, ascending."""
        self._require_run(run)
        return answers_ahead(self._table, self._states[-1], run)

    def outputs_now(self, run):
        """Return the outputs that the run can still reach, ascending."""
        self._require_run(run)
        return outputs_ahead(self._table, self._states[-1], run)

    def log(self):
        """Return the log: the table and the offices, and all rows that were done."""
        return (("world", self._table, self._names), *self._rows)

    def counts(self):
        """Return (started, finished): how many operations were started and how many were finished."""
        return (self._started, self._finished)

    def __len__(self):
        return len(self._rows)

    def __str__(self):
        return " / ".join(self._lines)

    def __eq__(self, other):
        return isinstance(other, World) and self._lines == other._lines

    def __ne__(self, other):
        return not (isinstance(other, World) and self._lines == other._lines)

    def _do(self, row):
        """Do the row without counting it. Only a row that is done to the end changes the world."""
        state = copy_of(self._states[-1])
        reason = reason_against(self._table, state, row)
        if reason is not None:
            raise InvalidStep(row, reason)
        try:
            result = do_row(self._table, state, row)
        except InvalidStep as refusal:
            raise InvalidStep(row, refusal.reason)
        self._rows.append(row)
        self._lines.append(row_line(row))
        self._states.append(state)
        return result

    def _go_back(self, many):
        """Make the world as it was after so many rows."""
        more = len(self._rows) - many
        self._rows = self._rows[:many]
        self._lines = self._lines[:len(self._lines) - more]
        self._states = self._states[:many + 1]

    def _require_run(self, run):
        """Raise InvalidStep if there is no run with this number."""
        if run >= len(self._states[-1].runs):
            raise InvalidStep(run, "run")
