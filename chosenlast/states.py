"""What a world is at one moment."""

from chosenlast.banks import first_bank
from chosenlast.offices import first_office
from chosenlast.programs import next_question


class State:
    """The bank, the offices by their names, all letters that were sent, which of them have arrived, and the runs.

    A run is a tuple (office, program, path).
    """

    def __init__(self, bank, offices, letters, arrived, runs):
        self.bank = bank
        self.offices = dict(offices)
        self.letters = list(letters)
        self.arrived = list(arrived)
        self.runs = list(runs)

    def post(self, letter):
        """Send a letter."""
        self.letters.append(letter)
        self.arrived.append(False)


def first_state(names):
    """Return the state at first of a world with offices of these names."""
    return State(first_bank(), {name: first_office() for name in names}, [], [], [])


def copy_of(state):
    """Return a state of its own that is the same at first."""
    return State(state.bank, state.offices, state.letters, state.arrived, state.runs)


def question_of(state, run):
    """Return (item, chosen) of the question that the run asks next, or None if it has ended."""
    _, program, path = state.runs[run]
    return next_question(program, path)


def places_of(state):
    """Return the place of each coin that was issued, as an ascending tuple of (number, place)."""
    places = {number: ("home",) for number in range(state.bank[2])}
    for name in state.offices:
        for number, _ in state.offices[name][1]:
            places[number] = ("office", name)
    for k in range(len(state.letters)):
        letter = state.letters[k]
        if letter[0] == "report":
            places[letter[1]] = ("used", letter[2])
        elif letter[0] in ("coin", "back") and not state.arrived[k]:
            # The coin stands last in such a letter.
            places[letter[-1][0]] = ("letter", k)
    return tuple([(number, places[number]) for number in range(state.bank[2])])
