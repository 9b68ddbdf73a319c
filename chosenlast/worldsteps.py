"""What the rows do to the state of a world."""

from chosenlast.arrivals import do_arrive
from chosenlast.banks import call, choose, issue
from chosenlast.guards import require_pairs
from chosenlast.offices import answer_with, give, narrow
from chosenlast.programs import output_of, program_after
from chosenlast.rowforms import FORMS, is_row
from chosenlast.states import question_of


def reason_against(table, state, row):
    """Return why no world in this state can do the row, whatever its table, bank and offices say; None if it may."""
    if not is_row(table, row):
        return "shape"
    parts = FORMS[row[0]]
    names = [row[k + 1] for k in range(len(parts)) if parts[k] in ("office", "other", "sender")]
    if not all([name is None or name in state.offices for name in names]):
        return "office"
    if row[0] == "answer" and not is_going_on(state, row[1]):
        return "run"
    if row[0] == "arrive" and row[1] >= len(state.letters):
        return "letter"
    if len(names) == 2 and names[0] == names[1]:
        return "same"
    return None


def is_going_on(state, run):
    """Whether there is a run with this number, and it has not ended."""
    return run < len(state.runs) and question_of(state, run) is not None


def do_row(table, state, row):
    """Do the row, against which there is no reason; return what it returns.

    If the bank or an office refuses it, InvalidStep is raised with the name of their own step.
    """
    word = row[0]
    if word == "issue":
        return do_issue(table, state, row[1], row[2])
    if word == "start":
        return do_start(state, row[1], row[2])
    if word == "answer":
        return do_answer(table, state, row[1], row[2], row[3])
    if word == "arrive":
        return do_arrive(table, state, row[1])
    if word == "pass":
        send_coin(state, row[1], row[3], ("coin", row[2]))
    elif word == "return":
        send_coin(state, row[1], row[2], ("back",))
    elif word == "narrow":
        do_narrow(table, state, row[1], row[2], row[3])
    elif word == "news":
        do_news(state, row[1], row[2])
    elif word == "call":
        do_call(state)
    else:
        do_choose(table, state, row[1])
    return None


def do_issue(table, state, office, scope):
    """Issue a coin and send it to the office; return its number."""
    bank, coin = issue(table, state.bank, scope)
    state.bank = bank
    state.post(("coin", office, coin))
    return coin[0]


def do_start(state, office, program):
    """Start a run; return its number."""
    state.runs.append((office, program, ()))
    return len(state.runs) - 1


def do_answer(table, state, run, answer, numbers):
    """Answer the next question of the run and send the reports; return the words that it says from there on."""
    office, program, path = state.runs[run]
    item, chosen = question_of(state, run)
    after, reports = answer_with(table, state.offices[office], item, chosen, answer, numbers)
    state.offices[office] = after
    longer = (*path, answer)
    state.runs[run] = (office, program, longer)
    for number, pair in reports:
        state.post(("report", number, pair))
    return output_of(program_after(program, longer), ())


def send_coin(state, office, number, envelope):
    """Send a coin of the office in a letter that begins like this."""
    after, coin = give(state.offices[office], number)
    state.offices[office] = after
    state.post((*envelope, coin))


def do_narrow(table, state, office, number, scope):
    """Narrow the scope of a coin of the office."""
    require_pairs(table, scope)
    state.offices[office] = narrow(state.offices[office], number, scope)


def do_news(state, sender, office):
    """Send what the sender, or the bank if it is None, knows to the office."""
    if sender is None:
        pairs = state.bank[0]
    else:
        pairs = state.offices[sender][0]
    state.post(("news", office, pairs))


def do_call(state):
    """Let the bank call."""
    state.bank = call(state.bank)
    for name in list(state.offices):
        state.post(("call", name))


def do_choose(table, state, row):
    """Let the bank choose the row."""
    state.bank = choose(table, state.bank, row)
    for name in list(state.offices):
        state.post(("choice", name, row))
