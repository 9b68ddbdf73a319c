"""Points 2 and 9: names, parameters and files of the interface; what holds for every call."""

import importlib
import inspect
import math
import unittest

from chosenlast.replaying import replayed
from chosenlast.worlds import World
from tests.values import ANY_VALUES, COINS, PROGRAM, SMALL_TABLES, TABLE, WIDE, copied, full_table, outcome, same

# Each file of the interface with its functions and their parameters; behind a * stands one that is passed by name.
FUNCTIONS = {
    "kinds": {
        "is_number": "thing", "is_name": "thing", "is_pair": "thing", "is_scope": "thing", "is_coin": "thing",
        "are_coins": "thing", "is_answer": "thing", "is_table_shape": "thing"},
    "tablechecker": {"lets_table": "thing"},
    "tables": {"candidates_of": "table item", "pairs_of": "table", "pairs_in": "table row"},
    "striking": {
        "alive_rows": "table struck", "dead_pairs": "table struck", "does_break": "table struck pairs"},
    "questions": {
        "answer_in": "table row item chosen", "struck_by": "table item chosen answer",
        "paid_by": "table struck item chosen answer", "forced_answer": "table struck item chosen"},
    "answerpapers": {"answer_paper": "table struck item chosen"},
    "answerchecker": {"lets_answer": "table struck item chosen thing"},
    "tabletexts": {"table_text": "table", "scope_text": "scope", "coin_text": "coin"},
    "tablereadings": {"read_table": "text", "read_scope": "text", "read_coin": "text"},
    "paying": {"coins_for": "coins pairs"},
    "paypapers": {"pay_paper": "coins pairs"},
    "paychecker": {"lets_pay": "coins pairs thing"},
    "breaking": {"breaking_number": "table struck", "least_breakings": "table struck"},
    "safety": {"is_safe": "table struck coins", "widest_scope": "table struck coins"},
    "safetypapers": {"safety_paper": "table struck coins"},
    "safetychecker": {"lets_safety": "table struck coins thing"},
    "homes": {"home_sets": "table struck coins coin", "fewest_home": "table struck coins coin"},
    "homepapers": {"home_paper": "table struck coins coin"},
    "homechecker": {"lets_home": "table struck coins coin thing"},
    "fewestpapers": {"fewest_paper": "table struck coins coin size"},
    "fewestchecker": {"lets_fewest": "table struck coins coin size thing"},
    "programchecker": {"lets_program": "table thing"},
    "programs": {
        "is_path": "program thing", "paths_of": "program", "output_of": "program path",
        "next_question": "program path", "program_after": "program path"},
    "running": {"run_on": "table row program", "agrees": "table row program path"},
    "reaching": {
        "paid_on": "table struck program path", "can_lead": "table struck coins program path",
        "paths_open": "table struck coins program", "outputs_open": "table struck coins program",
        "least_coins": "table struck program output", "bills_of": "table struck program output"},
    "reachpapers": {"reach_paper": "table struck coins program output"},
    "reachchecker": {"lets_reach": "table struck coins program output thing"},
    "programtexts": {"program_text": "program"},
    "programreadings": {"program_read": "text *line"},
    "banks": {
        "first_bank": "", "issue": "table bank scope", "report": "table bank number pair",
        "take_back": "bank number", "call": "bank", "choose": "table bank row"},
    "bankchecker": {"lets_bank": "table thing"},
    "offices": {
        "first_office": "", "take": "office coin", "give": "office number", "narrow": "office number scope",
        "hear": "office pairs", "be_called": "office",
        "answer_with": "table office item chosen answer numbers", "answers_open": "table office item chosen"},
    "officechecker": {"lets_office": "table thing"},
    "records": {"true_rows": "table record"},
    "recordpapers": {"record_paper": "table record"},
    "recordchecker": {"lets_record": "table record thing"},
    "cases": {"worst_case": "table bank scope"},
    "casechecker": {"lets_case": "table bank scope thing"},
    "truths": {"rows_left": "world", "as_if": "world row"},
    "auditpapers": {"audit_paper": "world"},
    "auditchecker": {"lets_audit": "world thing"},
    "replaying": {"is_log": "thing", "replayed": "log"},
    "rowtexts": {"row_line": "row", "log_lines": "log"},
    "rowreadings": {"read_row": "text", "read_log": "lines"},
}
# Each class of the interface with its methods and their parameters.
CLASSES = {
    "worlds": {"World": {
        "__init__": "table offices", "issue_coin": "office scope", "start_run": "office program",
        "give_answer": "run answer numbers", "pass_coin": "office other number", "return_coin": "office number",
        "narrow_coin": "office number scope", "send_news": "sender office", "let_arrive": "letter", "call_all": "",
        "choose_row": "row", "go": "row", "table_now": "", "bank_now": "", "office_now": "office", "letters_now": "",
        "runs_now": "", "places_now": "", "widest_now": "", "answers_now": "run", "outputs_now": "run", "log": "",
        "undo": "", "do_all": "rows *keep", "counts": "", "__len__": "", "__str__": "", "__eq__": "other",
        "__ne__": "other"}},
    "desk": {"Desk": {"__init__": "", "say": "row", "counts": ""}},
}
DEFAULTS = {"line": 0, "keep": False}

BIG, SMALL, MON = ("room", "big"), ("room", "small"), ("time", "mon")
UNKNOWN = ("room", "mon")

SAFE = ("safe", (("small", "wed"), (("few", (SMALL,)), ("few", (("time", "wed"),)))))
UNSAFE = ("unsafe", (BIG, SMALL), (2, 3), (("big", "mon"), ("small", "mon")))
HOME = ((2,), SAFE[1], (UNSAFE,))
FEWEST = (UNSAFE, ())

LOGS = ((("world", TABLE, ("ann",)),),
        (("world", TABLE, ("ann", "bob")), ("issue", "ann", (SMALL,)), ("arrive", 0), ("start", "ann", PROGRAM),
         ("answer", 0, "yes", (0,)), ("arrive", 0)),
        (("world", TABLE, ("ann",)), ("call",), ("choose", ("big", "mon"))),
        (("world", TABLE, ("ann",)), ("call",), ("call",)))

# Values for each parameter, wrong ones among them where a point names an error for them; first those for a parameter
# of one function alone.
SAMPLES = {
    "row_line row": [row for log in LOGS for row in log[1:]],
    "log": LOGS,
    "world": [replayed(log) for log in LOGS[:3]],
    "lines": ([], ["world ann"], ["world ann", "items a", "row x", "row y"],
              ["world ann", "items a", "row x", "row y", "call"],
              ["world ann", "items a", "row x", "row y", "call ", ""]),
    "table": (TABLE,),
    "struck": ((), (BIG,), (BIG, SMALL), (UNKNOWN,)),
    "pairs": ((), (BIG, SMALL), (MON,), (BIG, UNKNOWN)),
    "item": ("room", "time", "year"),
    "chosen": ((), ("big",), ("mon", "wed")),
    "answer": ("yes", "no"),
    "row": TABLE[1],
    "scope": ((), (BIG,), (BIG, MON), (UNKNOWN,)),
    "coin": ((12, (BIG, MON)), (1000, ())),
    "coins": ((), COINS, ((2, (BIG,)), (3, (BIG, SMALL, MON)), (7, ())), ((0, (UNKNOWN,)),)),
    "size": (1, 2),
    "program": (PROGRAM, ("say", "a", PROGRAM)),
    "path": ((), ("yes",), ("no",), ("yes", "no")),
    "output": ((), ("large",), ("a", "large", "early")),
    "bank": (((), (), 0, False, None), ((), COINS, 2, False, None), ((), COINS, 2, True, None),
             ((BIG,), (), 7, True, None), ((), (), 7, True, ("big", "mon"))),
    "office": (((), (), False), ((), COINS, False), ((BIG,), (), True), ((MON,), ((2, (BIG, MON)),), False)),
    "record": ((), (("room", ("big",), "no"),), (("room", ("big",), "no"), ("time", ("tue",), "yes")),
               (("room", ("mon",), "no"),)),
    "number": (0, 1, 2),
    "numbers": ((), (0,), (1, 0), (2,)),
    "pair": (BIG, MON, UNKNOWN),
    "line": (0, 12),
    "text": ("", "-", "\n", "items a\nrow x\nrow y", "items a\nrow x\n", "a:b", "a:b,a:a", "3=a:b,c:d", "3", "3=,",
             "stop", "say a", "ask a b,c say x stop stop", "call", "news - bob", "issue ann", "answer 0 no 1,0"),
    "thing": (*ANY_VALUES, *SMALL_TABLES, WIDE, full_table(4, 5, 24), COINS, BIG, (BIG, MON),
              ("none", (BIG, BIG, SMALL, SMALL)), ("none", (BIG,)), ("open", ("big", "mon"), ("small", "wed")),
              ("open", ("big", "mon"), ("small", "mon")), ("forced", "no", ("small", "mon"), (BIG, BIG, None, None)),
              ("forced", "yes", ("small", "mon"), (None,) * 4), ("paid", ()), ("paid", (1, 0)), ("paid", (1,)),
              ("few", (BIG,)), ("few", (BIG, SMALL)), ("few", ()), ("unsafe", (), (), ()), SAFE, UNSAFE, HOME, FEWEST,
              PROGRAM, ("can", ("no",), (0,)), ("cannot", (("few", (SMALL,)),)), ("cannot", ()),
              ((), (), 0, False, None), ((BIG,), ((2, (MON,)),), 4, True, None), ((), (), 0, True, ("big", "mon")),
              ((), COINS, False), ((BIG, MON), (), True), ("true", ("big", "mon")), ("false", (0, 0, 1, 1)),
              ((0, BIG), (1, SMALL)), ((0, BIG), (2, SMALL)), *LOGS, (("big", "mon"), ()),
              (("big", "mon"), (((SMALL,),),)), (("small", "mon"), (((SMALL,),),))),
}
# So many calls of a function are enough; they are spread evenly over all that there are.
MOST_CALLS = 2000


def module_of(file):
    return importlib.import_module("chosenlast." + file)


def functions():
    """Yield each function of the interface with the names of its parameters that may be passed by position."""
    for file, listed in FUNCTIONS.items():
        for name, parameters in listed.items():
            yield getattr(module_of(file), name), [word for word in parameters.split() if word[0] != "*"]


def sample_calls(function, parameters):
    """Return many tuples of arguments for the parameters of the function."""
    choices = [SAMPLES.get(f"{function.__name__} {parameter}") or SAMPLES[parameter] for parameter in parameters]
    count = math.prod(map(len, choices))
    step = max(1, count // MOST_CALLS)
    while math.gcd(step, count) > 1:
        # Otherwise the calls would have only some of the values of a parameter.
        step += 1
    calls = []
    for k in range(0, count, step):
        call = []
        for things in reversed(choices):
            k, at = divmod(k, len(things))
            call.insert(0, things[at])
        calls.append(tuple(call))
    return calls


class InterfaceTests(unittest.TestCase):

    def test_files_and_parameters(self):
        for file, listed in FUNCTIONS.items():
            for name, parameters in listed.items():
                self.check_function(file, getattr(module_of(file), name), parameters)

    def check_function(self, file, function, parameters):
        self.assertTrue(inspect.isfunction(function), function)
        self.assertEqual(function.__module__, "chosenlast." + file)
        found = inspect.signature(function).parameters.values()
        self.assertEqual([parameter.name for parameter in found], parameters.replace("*", "").split(), function)
        for parameter, word in zip(found, parameters.split()):
            if word[0] == "*":
                expected = (parameter.KEYWORD_ONLY, DEFAULTS[word[1:]])
            else:
                expected = (parameter.POSITIONAL_OR_KEYWORD, parameter.empty)
            self.assertEqual((parameter.kind, parameter.default), expected)

    def test_classes_and_methods(self):
        """Each method is defined in the class itself."""
        for file, listed in CLASSES.items():
            for name, methods in listed.items():
                kind = getattr(module_of(file), name)
                self.assertEqual((kind.__module__, kind.__bases__), ("chosenlast." + file, (object,)))
                for method, parameters in methods.items():
                    self.check_function(file, vars(kind)[method], ("self " + parameters).strip())

    def test_errors_are_defined_in_their_file(self):
        found = [name for name, thing in vars(module_of("errors")).items() if inspect.isclass(thing)]
        self.assertEqual(found, [
            "ChosenError", "PaperError", "TableError", "StepError", "TextError", "InvalidPaper", "UnknownName",
            "UnknownPair", "InvalidStep", "NothingToUndo", "InvalidText", "InvalidRow"])
        for name in found:
            self.assertEqual(getattr(module_of("errors"), name).__module__, "chosenlast.errors")

    def test_by_position_and_by_name(self):
        for function, parameters in functions():
            for call in sample_calls(function, parameters):
                expected = outcome(function, *call)
                named = dict(zip(reversed(parameters), reversed(call)))
                self.assertTrue(same(outcome(function, **named), expected), (function, call))
                mixed = dict(zip(parameters[1:], call[1:]))
                self.assertTrue(same(outcome(function, *call[:1], **mixed), expected), (function, call))

    def test_arguments_are_not_changed(self):
        for function, parameters in functions():
            for call in sample_calls(function, parameters):
                kept = copied(call)
                outcome(function, *call)
                self.assertTrue(same(call, kept), (function, kept))

    def test_results_do_not_depend_on_the_objects_or_on_earlier_calls(self):
        for function, parameters in functions():
            calls = sample_calls(function, parameters)
            first = [outcome(function, *call) for call in calls]
            again = [outcome(function, *copied(call)) for call in reversed(calls)]
            self.assertTrue(same(first, list(reversed(again))), function)

    def test_kinds_of_results(self):
        for function, parameters in functions():
            for call in sample_calls(function, parameters):
                result = outcome(function, *call)
                self.check_kinds(result)
                if result[0] == "returned" and isinstance(result[1], tuple) and result[1]:
                    itself = function.__name__ == "program_after" and call[1] == ()
                    self.assertIs(any(result[1] is thing for thing in call), itself, (function, call))
                if result[0] == "returned" and function.__name__.startswith(("is_", "are_", "does_", "can_", "agrees")):
                    self.assertIs(type(result[1]), bool)

    def check_kinds(self, thing):
        self.assertIn(type(thing), (tuple, list, str, int, bool, type(None), World))
        if type(thing) in (tuple, list):
            for element in thing:
                self.check_kinds(element)

    def test_names_that_end_in_paper(self):
        """A paper that such a function returns is accepted by its checker, also after it was copied."""
        for word in ("answer", "pay", "safety", "home", "fewest", "reach", "record", "audit"):
            maker, checker = f"{word}papers.{word}_paper", f"{word}checker.lets_{word}"
            made = getattr(module_of(maker.split(".")[0]), maker.split(".")[1])
            lets = getattr(module_of(checker.split(".")[0]), checker.split(".")[1])
            for call in sample_calls(made, list(inspect.signature(made).parameters)):
                result = outcome(made, *call)
                if result[0] == "returned" and result[1] is not None:
                    self.assertEqual(outcome(lets, *call, copied(result[1]))[0], "returned")

    def test_missing_and_surplus_arguments(self):
        for function, parameters in functions():
            call = sample_calls(function, parameters)[0]
            if parameters:
                with self.assertRaises(TypeError):
                    function(*call[1:])
            with self.assertRaises(TypeError):
                function(*call, ())


if __name__ == "__main__":
    unittest.main()
