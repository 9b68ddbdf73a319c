"""What letters do when they arrive."""

from chosenlast.banks import report, take_back
from chosenlast.offices import be_called, hear, take
from chosenlast.tables import pairs_in, pairs_of


def do_arrive(table, state, number):
    """Let the letter with this number arrive; return whether this is its first arrival."""
    if state.arrived[number]:
        return False
    state.arrived[number] = True
    letter = state.letters[number]
    if letter[0] == "back":
        state.bank = take_back(state.bank, letter[1][0])
    elif letter[0] == "report":
        state.bank = report(table, state.bank, letter[1], letter[2])
    elif letter[0] == "coin":
        arrive_coin(state, letter[1], letter[2])
    elif letter[0] == "call":
        arrive_call(state, letter[1])
    elif letter[0] == "news":
        arrive_pairs(state, letter[1], letter[2])
    else:
        arrive_pairs(state, letter[1], pairs_not_in(table, letter[2]))
    return True


def arrive_coin(state, name, coin):
    """The office takes the coin, or sends it back if it was called."""
    office = state.offices[name]
    if office[2]:
        state.post(("back", coin))
    else:
        state.offices[name] = take(office, coin)


def arrive_call(state, name):
    """The office is called and sends all coins back."""
    after, coins = be_called(state.offices[name])
    state.offices[name] = after
    for coin in coins:
        state.post(("back", coin))


def arrive_pairs(state, name, pairs):
    """The office hears the pairs."""
    state.offices[name] = hear(state.offices[name], pairs)


def pairs_not_in(table, row):
    """Return the pairs of the table that the row does not contain, ascending."""
    contained = pairs_in(table, row)
    return tuple([pair for pair in pairs_of(table) if pair not in contained])
