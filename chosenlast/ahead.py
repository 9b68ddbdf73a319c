"""What the runs of a world can still do."""

from chosenlast.offices import answers_open
from chosenlast.programs import output_of, paths_of, program_after
from chosenlast.reaching import can_lead
from chosenlast.states import question_of


def answers_ahead(table, state, run):
    """Return the answers that the office of the run can give to its next question, ascending."""
    question = question_of(state, run)
    if question is None:
        return ()
    item, chosen = question
    return answers_open(table, state.offices[state.runs[run][0]], item, chosen)


def outputs_ahead(table, state, run):
    """Return the outputs that the run can still reach, ascending; its own alone, if it has ended."""
    name, program, path = state.runs[run]
    if question_of(state, run) is None:
        return (output_of(program, path),)
    struck, coins, _ = state.offices[name]
    following = program_after(program, path)
    outputs = []
    for rest in paths_of(following):
        if can_lead(table, struck, coins, following, rest):
            outputs.append(output_of(program, (*path, *rest)))
    return tuple(sorted(set(outputs)))
