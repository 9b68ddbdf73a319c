"""Worlds once more, put into code by the words of points 66 to 72, to compare with: nothing here is quick or copied."""

import itertools

from chosenlast.kinds import is_name, is_number, is_scope
from tests import entries, reference


class Refused(Exception):
    """A row cannot be done: ("UnknownPair", pair) or ("InvalidStep", reason)."""


def is_names(thing):
    return entries.is_tuple(thing, is_name)


def is_form(table, thing):
    """Whether the value is a row by its form."""
    forms = {
        "issue": (is_name, is_scope), "start": (is_name, lambda x: entries.program(table, x) is None),
        "answer": (is_number, lambda x: type(x) is str and x in ("yes", "no"),
                   lambda x: entries.is_tuple(x, is_number)),
        "pass": (is_name, is_name, is_number), "return": (is_name, is_number),
        "narrow": (is_name, is_number, is_scope), "news": (lambda x: x is None or is_name(x), is_name),
        "arrive": (is_number,), "call": (), "choose": (is_names,)}
    if type(thing) is not tuple or not thing or type(thing[0]) is not str or thing[0] not in forms:
        return False
    wanted = forms[thing[0]]
    return len(thing) == len(wanted) + 1 and all(fits(part) for fits, part in zip(wanted, thing[1:]))


class Model:
    """A world as a list of done rows, and what they lead to."""

    def __init__(self, table, names):
        self.table = table
        self.names = names
        self.rows = []
        self.reset()

    def reset(self):
        self.issued, self.outside, self.reported = {}, {}, set()
        self.called, self.chosen = False, None
        self.held = {name: {} for name in self.names}
        self.struck = {name: set() for name in self.names}
        self.were_called = set()
        self.letters, self.came = [], []
        self.runs = []
        self.used = {}

    def undo(self):
        rows, self.rows = self.rows, []
        self.reset()
        for row in rows[:-1]:
            self.do(row)

    def do(self, row):
        """Do the row; return what it returns, or raise Refused before anything was changed."""
        table = self.table
        if not is_form(table, row):
            raise Refused("InvalidStep", "shape")
        word, *parts = row
        named = {"issue": 1, "start": 1, "pass": 2, "return": 1, "narrow": 1, "news": 2}.get(word, 0)
        for name in parts[:named]:
            if name not in self.names and not (word == "news" and name is parts[0] is None):
                raise Refused("InvalidStep", "office")
        if word == "answer" and (parts[0] >= len(self.runs) or self.question(parts[0]) is None):
            raise Refused("InvalidStep", "run")
        if word == "arrive" and parts[0] >= len(self.letters):
            raise Refused("InvalidStep", "letter")
        if word in ("pass", "news") and parts[0] == parts[1]:
            raise Refused("InvalidStep", "same")
        for pair in parts[-1] if word in ("issue", "narrow") else ():
            if pair not in reference.pairs_of(table):
                raise Refused("UnknownPair", pair)
        result = getattr(self, "do_" + word)(*parts)
        self.rows.append(row)
        return result

    def send(self, *letter):
        self.letters.append(letter)
        self.came.append(False)

    def question(self, run):
        _, program, path = self.runs[run]
        return reference.walks(program)[path][1]

    def do_issue(self, office, scope):
        if self.called:
            raise Refused("InvalidStep", "called")
        number = len(self.issued)
        if not reference.safe(self.table, tuple(self.reported), (*self.outside.items(), (number, scope))):
            raise Refused("InvalidStep", "unsafe")
        self.issued[number] = self.outside[number] = scope
        self.send("coin", office, (number, scope))
        return number

    def do_start(self, office, program):
        self.runs.append((office, program, ()))
        return len(self.runs) - 1

    def do_answer(self, run, answer, numbers):
        office, program, path = self.runs[run]
        item, chosen = self.question(run)
        strikes = reference.strikes(self.table, item, chosen, answer)
        struck, held = tuple(self.struck[office]), self.held[office]
        if reference.breaks(self.table, struck, strikes):
            raise Refused("InvalidStep", "none")
        paid = [pair for pair in strikes if pair not in reference.dead(self.table, struck)]
        if office in self.were_called and paid:
            raise Refused("InvalidStep", "called")
        if len(numbers) != len(paid):
            raise Refused("InvalidStep", "many")
        if len(set(numbers)) < len(numbers) or any(
                number not in held or pair not in held[number] for number, pair in zip(numbers, paid)):
            raise Refused("InvalidStep", "coin")
        self.struck[office] |= set(strikes)
        for number, pair in zip(numbers, paid):
            del held[number]
            self.used[number] = pair
            self.send("report", number, pair)
        before, after = [reference.walks(program)[some][0] for some in (path, (*path, answer))]
        self.runs[run] = (office, program, (*path, answer))
        return after[len(before):]

    def release(self, office, number):
        if number not in self.held[office]:
            raise Refused("InvalidStep", "coin")
        return number, self.held[office].pop(number)

    def do_pass(self, office, other, number):
        self.send("coin", other, self.release(office, number))

    def do_return(self, office, number):
        self.send("back", self.release(office, number))

    def do_narrow(self, office, number, scope):
        if number not in self.held[office]:
            raise Refused("InvalidStep", "coin")
        if not set(scope) <= set(self.held[office][number]):
            raise Refused("InvalidStep", "scope")
        self.held[office][number] = scope

    def do_news(self, sender, office):
        pairs = self.reported if sender is None else self.struck[sender]
        self.send("news", office, tuple(sorted(pairs)))

    def do_call(self):
        if self.called:
            raise Refused("InvalidStep", "called")
        self.called = True
        for name in self.names:
            self.send("call", name)

    def do_choose(self, row):
        for reason, holds in (
                ("open", not self.called), ("outside", self.outside), ("chosen", self.chosen is not None),
                ("row", row not in reference.alive(self.table, self.reported))):
            if holds:
                raise Refused("InvalidStep", reason)
        self.chosen = row
        for name in self.names:
            self.send("choice", name, row)

    def do_arrive(self, letter):
        if self.came[letter]:
            return False
        self.came[letter] = True
        word, *parts = self.letters[letter]
        if word == "coin" and parts[0] in self.were_called:
            self.send("back", parts[1])
        elif word == "coin":
            self.held[parts[0]][parts[1][0]] = parts[1][1]
        elif word == "back":
            del self.outside[parts[0][0]]
        elif word == "report":
            del self.outside[parts[0]]
            self.reported.add(parts[1])
        elif word == "news":
            self.struck[parts[0]] |= set(parts[1])
        elif word == "call":
            self.were_called.add(parts[0])
            for coin in sorted(self.held[parts[0]].items()):
                self.send("back", coin)
            self.held[parts[0]] = {}
        else:
            contained = set(zip(self.table[0], parts[1]))
            self.struck[parts[0]] |= set(reference.pairs_of(self.table)) - contained
        return True

    def bank(self):
        return (tuple(sorted(self.reported)), tuple(sorted(self.outside.items())), len(self.issued), self.called,
                self.chosen)

    def office(self, name):
        return (tuple(sorted(self.struck[name])), tuple(sorted(self.held[name].items())), name in self.were_called)

    def letters_left(self):
        return tuple((k, letter) for k, letter in enumerate(self.letters) if not self.came[k])

    def told_runs(self):
        return tuple((office, program, path, reference.walks(program)[path][0]) for office, program, path in self.runs)

    def places(self):
        found = []
        for number in self.issued:
            places = [("office", name) for name in self.names if number in self.held[name]]
            places += [("letter", k) for k, letter in self.letters_left()
                       if letter[0] in ("coin", "back") and letter[-1][0] == number]
            places += [("used", self.used[number])] if number in self.used else []
            # Guarantee C5: nowhere else, and at one place only.
            assert len(places) <= 1 and (number in self.outside or not places or places[0][0] == "used")
            found.append((number, places[0] if places else ("home",)))
        return tuple(found)

    def widest(self):
        return reference.widest(self.table, tuple(self.reported), tuple(self.outside.items()))

    def answers(self, run):
        if self.question(run) is None:
            return ()
        struck, coins, _ = self.office(self.runs[run][0])
        found = []
        for answer in ("no", "yes"):
            strikes = reference.strikes(self.table, *self.question(run), answer)
            paid = [pair for pair in strikes if pair not in reference.dead(self.table, struck)]
            if not reference.breaks(self.table, struck, strikes) and reference.pays(coins, paid):
                found.append(answer)
        return tuple(found)

    def outputs(self, run):
        office, program, path = self.runs[run]
        walks = reference.walks(program)
        if walks[path][1] is None:
            return (walks[path][0],)
        struck, coins, _ = self.office(office)
        rest = walks[path][2]
        return tuple(sorted({
            walks[whole][0] for whole in reference.complete_paths(program) if whole[:len(path)] == path
            and reference.is_open(self.table, struck, coins, rest, whole[len(path):])}))

    def given(self):
        """Return the answers of all runs."""
        return [asked for _, program, path in self.runs for asked in reference.walks(program)[path][3]]

    def rows_left(self):
        return tuple(row for row in self.table[1] if all(
            reference.answer(self.table, row, item, chosen) == word for item, chosen, word in self.given()))

    def as_if(self, row):
        return tuple(all(reference.answer(self.table, row, item, chosen) == word
                         for item, chosen, word in reference.walks(program)[path][3])
                     for _, program, path in self.runs)


def payments(coins, paid):
    """Return all tuples of distinct numbers of the coins that pay for the pairs in order."""
    return [numbers for numbers in itertools.permutations(dict(coins), len(paid))
            if all(pair in dict(coins)[number] for number, pair in zip(numbers, paid))]
