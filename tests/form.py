"""The form of the package's code: what can be seen mechanically of the rules L1 to L28 of LANGUAGE.md.

What the package does not use is refused here even where a rule would allow it under conditions; code that needs more
of a rule widens this checker first. Not seen here, and to be read for: how deep a recursion goes (L11), of which kind
the keys of a dict and the members of a set are (L24), and names that comprehensions share with what is around (L7).
"""

import ast
import builtins
import io
import tokenize

PACKAGE = "chosenlast"

CALLED_BUILTINS = {
    "len", "range", "enumerate", "zip", "min", "max", "sum", "abs", "sorted", "reversed", "int", "str", "bool", "list",
    "tuple", "dict", "set", "isinstance", "ord", "any", "all", "divmod"}
KINDS = {"int", "str", "bool", "bytes", "list", "tuple", "dict"}
KEYS = {"len", "int", "str", "abs", "sum", "min", "max", "tuple"}
LAZY = {"zip", "range", "enumerate", "reversed"}
VIEWS = {"items", "keys", "values"}
AT_ONCE = {"list", "tuple", "dict", "sorted", "sum", "any", "all", "min", "max", "enumerate", "zip"}
METHODS = {
    "append", "copy", "count", "endswith", "extend", "find", "get", "index", "insert", "items", "join", "keys",
    "partition", "pop", "replace", "rpartition", "setdefault", "split", "startswith", "values"}
BARRED_NAMES = {
    "register", "mro", "elements", "open", "input", "law", "version_info", "with_traceback", "add_note", "attrgetter",
    "breakpoint", "builtins", "compile", "copyright", "credits", "delattr", "dir", "eval", "exec", "exit", "gc",
    "getattr", "globals", "hasattr", "help", "id", "importlib", "license", "locals", "methodcaller", "os", "quit",
    "setattr", "super", "type", "vars", "sys", "format", "format_map", "args", "_cold", "_tuplegetter", "_outside",
    "_record", "_written_out", "_member_names"}
BARRED_BEGINNINGS = (
    "__", "_wall", "_pe_", "_dcw_", "_enum_", "_cm_", "_twin_re_", "_lay_", "_law_", "_stub_", "_sre", "_WallAttr")
BARRED_WORDS = {
    "type", "typing", "typing_extensions", "enum", "Enum", "IntEnum", "StrEnum", "Flag", "IntFlag", "Generic",
    "Protocol", "ABC", "ABCMeta", "namedtuple", "NamedTuple", "TypedDict", "TYPE_CHECKING", "abstractmethod"}
# A doctest that ran before leaves a _ among the builtins.
BUILTINS = set(dir(builtins)) - {"_"}
BARRED_FILES = {"test", "tests", "testing", "site", "conftest", "sitecustomize", "usercustomize"}

STATEMENTS = (
    ast.Assign, ast.AugAssign, ast.If, ast.While, ast.For, ast.Return, ast.Raise, ast.Break, ast.Continue, ast.Pass,
    ast.Expr, ast.Try, ast.ExceptHandler)
EXPRESSIONS = (
    ast.BoolOp, ast.BinOp, ast.UnaryOp, ast.IfExp, ast.Dict, ast.ListComp, ast.DictComp, ast.Compare, ast.Call,
    ast.Constant, ast.Attribute, ast.Subscript, ast.Name, ast.List, ast.Tuple, ast.Slice, ast.Starred)
SIGNS = (
    ast.And, ast.Or, ast.Add, ast.Sub, ast.Mult, ast.FloorDiv, ast.Mod, ast.BitAnd, ast.BitOr, ast.BitXor, ast.LShift,
    ast.RShift, ast.Not, ast.USub, ast.Invert, ast.Eq, ast.NotEq, ast.Lt, ast.LtE, ast.Gt, ast.GtE, ast.Is, ast.IsNot,
    ast.In, ast.NotIn)
PARTS = (ast.expr_context, ast.comprehension, ast.keyword, ast.arguments, ast.arg)

# The double-underscore methods that are used, with their parameters, and what all but the first one may call.
DOUBLE = {"__init__": None, "__eq__": ["self", "other"], "__ne__": ["self", "other"], "__len__": ["self"],
          "__str__": ["self"]}
CALLED_IN_DOUBLE = {"len", "isinstance", "str", "join"}


class File:
    """One file of the package: its text, its tree, and the faults found in it."""

    def __init__(self, name, text, trees):
        self.name = name
        self.text = text
        self.trees = trees
        self.faults = []
        self.tree = ast.parse(text)
        self.parents = {child: node for node in ast.walk(self.tree) for child in ast.iter_child_nodes(node)}
        self.docstrings = {
            node.body[0].value for node in ast.walk(self.tree)
            if isinstance(node, (ast.Module, ast.ClassDef, ast.FunctionDef)) and ast.get_docstring(node) is not None}
        self.imported = [alias.name for node in self.tree.body if isinstance(node, ast.ImportFrom)
                         for alias in node.names]
        self.own = self.imported + [
            name for node in self.tree.body for name in bound_at_module_level(node)]
        everything = [node for tree in trees.values() for node in tree.body]
        self.callables = {node.name for node in everything if isinstance(node, (ast.FunctionDef, ast.ClassDef))}
        self.methods = {part.name for node in everything if isinstance(node, ast.ClassDef)
                        for part in node.body if isinstance(part, ast.FunctionDef)}

    def fault(self, rule, node, what):
        self.faults.append(f"{self.name}:{getattr(node, 'lineno', 0)}: {rule}: {what}")


def bound_at_module_level(node):
    if isinstance(node, (ast.FunctionDef, ast.ClassDef)):
        return [node.name]
    if isinstance(node, ast.Assign):
        return [target.id for target in node.targets if isinstance(target, ast.Name)]
    return []


def faults_of(files):
    """Return the faults of a package, given as a dict from file names to texts."""
    faults = []
    trees = {name: ast.parse(text) for name, text in files.items()}
    for name, text in files.items():
        file = File(name, text, trees)
        for check in (check_name, check_text, check_tokens, check_top, check_imports, check_nodes, check_functions):
            check(file)
        faults.extend(file.faults)
    return faults + circles(trees)


def check_name(file):
    stem = file.name[:-len(".py")]
    if not file.name.endswith(".py") or not all(c in "abcdefghijklmnopqrstuvwxyz0123456789_" for c in stem):
        file.fault("L1", None, "the file's name is not plain and lower-case")
    if stem in BARRED_FILES | BARRED_NAMES | BARRED_WORDS | BUILTINS or stem.startswith(("law_", "test_")):
        file.fault("L14", None, "a barred file name")
    if len(file.trees) > 100:
        file.fault("L14", None, "too many files")


def check_text(file):
    lines = file.text.split("\n")
    if len(lines) > 399:
        file.fault("L10", None, "more than 399 lines")
    for line in lines:
        if len(line) > 120:
            file.fault("L10", None, "a line of more than 120 characters: " + line[:40])
        if not all(" " <= letter <= "~" for letter in line):
            file.fault("L14", None, "a character that is not plain: " + line[:40])
    if "_wall" in file.text or "_WallAttr" in file.text:
        file.fault("L12", None, "a barred word")


def check_tokens(file):
    for token in tokenize.generate_tokens(io.StringIO(file.text).readline):
        if token.type == tokenize.STRING:
            rest = token.string.replace("\\\\", "")
            if "\\" in rest.replace("\\n", "").replace("\\t", "").replace("\\'", "").replace('\\"', ""):
                file.fault("L27", None, "an escape: " + token.string[:40])
            if not token.string.startswith(("'", '"')):
                file.fault("L7", None, "a string with a prefix: " + token.string[:40])


def check_top(file):
    done = False
    for node in file.tree.body:
        if isinstance(node, ast.ImportFrom):
            if done:
                file.fault("L2", node, "an import below the top")
        elif isinstance(node, (ast.FunctionDef, ast.ClassDef)):
            done = True
        elif isinstance(node, ast.Assign):
            done = True
            if len(node.targets) != 1 or not isinstance(node.targets[0], ast.Name):
                file.fault("L3", node, "not one name that is assigned")
            if not is_plain(node.value):
                file.fault("L3", node, "a value that is not plain")
        elif not (isinstance(node, ast.Expr) and node.value in file.docstrings):
            file.fault("L3", node, "a statement at module level")
    if len(file.own) != len(set(file.own)):
        file.fault("L15", None, "a name is bound twice")


def is_plain(node):
    """Whether it is a constant, or a tuple of such, or a list or dict of these."""
    if isinstance(node, ast.List):
        return all(map(is_plain_part, node.elts))
    if isinstance(node, ast.Dict):
        return None not in node.keys and all(map(is_plain_part, [*node.keys, *node.values]))
    return is_plain_part(node)


def is_plain_part(node):
    if isinstance(node, ast.Tuple):
        return all(map(is_plain_part, node.elts))
    if isinstance(node, ast.UnaryOp) and isinstance(node.op, ast.USub):
        node = node.operand
    return isinstance(node, ast.Constant) and isinstance(node.value, (int, str, type(None)))


def check_imports(file):
    for node in ast.walk(file.tree):
        if isinstance(node, ast.Import):
            file.fault("L2", node, "import of a module")
        if isinstance(node, ast.ImportFrom):
            stem = (node.module or "").removeprefix(PACKAGE + ".")
            tree = file.trees.get(stem + ".py")
            if node.level or node.module != f"{PACKAGE}.{stem}" or tree is None:
                file.fault("L2", node, "an import from elsewhere")
                continue
            defined = [name for other in tree.body for name in bound_at_module_level(other)]
            for alias in node.names:
                if alias.asname or alias.name not in defined:
                    file.fault("L16", node, f"{alias.name} is renamed, or not defined there")
                uses = [n for n in ast.walk(file.tree) if isinstance(n, ast.Name) and n.id == alias.name]
                if not uses:
                    file.fault("L2", node, f"{alias.name} is not used")


def circles(trees):
    """Return a fault for each file that imports from itself through other files."""
    imports = {
        name: {node.module.split(".")[-1] + ".py" for node in ast.walk(tree)
               if isinstance(node, ast.ImportFrom) and node.module}
        for name, tree in trees.items()}
    faults = []
    for name in trees:
        seen, further = set(), imports[name]
        while further - seen:
            seen |= further
            further = {found for other in further for found in imports.get(other, ())}
        if name in seen:
            faults.append(f"{name}: L16: imports from itself")
    return faults


def check_nodes(file):
    for node in ast.walk(file.tree):
        if isinstance(node, (ast.Module, ast.ImportFrom, ast.alias, *PARTS, *SIGNS)):
            pass
        elif isinstance(node, ast.FunctionDef):
            check_definition(file, node)
        elif isinstance(node, ast.ClassDef):
            check_class(file, node)
        elif isinstance(node, STATEMENTS):
            check_statement(file, node)
        elif isinstance(node, EXPRESSIONS):
            check_expression(file, node)
        else:
            file.fault("L6 L7", node, "not allowed here: " + node.__class__.__name__)
        for name in names_in(node):
            check_identifier(file, node, name)


def names_in(node):
    names = [getattr(node, field, None) for field in ("id", "arg", "attr")]
    if isinstance(node, (ast.FunctionDef, ast.ClassDef)):
        names.append(node.name)
    return [name for name in names if name is not None]


def check_identifier(file, node, name):
    if name in DOUBLE and isinstance(node, ast.FunctionDef):
        return
    if name in BARRED_NAMES or name.startswith(BARRED_BEGINNINGS) or name.startswith(("f_", "tb_", "co_")):
        file.fault("L12 L17", node, "a barred name: " + name)
    if name == "_" and isinstance(node, ast.Name) and isinstance(node.ctx, ast.Load):
        file.fault("L12", node, "_ is read")
    bound = (isinstance(node, (ast.arg, ast.ClassDef, ast.FunctionDef))
             or isinstance(node, ast.Name) and isinstance(node.ctx, ast.Store))
    if bound and name in BUILTINS:
        file.fault("L15", node, "a builtin's name: " + name)
    local = isinstance(node, ast.arg) or bound and not isinstance(file.parents[node], (ast.Module, ast.Assign))
    inside = enclosing(file, node, ast.FunctionDef) is not None
    if bound and (local or inside) and name in file.own and not isinstance(node, (ast.FunctionDef, ast.ClassDef)):
        file.fault("L15", node, "a local name that the file has at module level: " + name)


def enclosing(file, node, kind):
    while node is not None and not isinstance(node, kind):
        node = file.parents.get(node)
    return node


def check_definition(file, node):
    parent = file.parents[node]
    if not isinstance(parent, (ast.Module, ast.ClassDef)):
        file.fault("L4", node, "a nested function")
    if node.decorator_list or node.returns or getattr(node, "type_params", None):
        file.fault("L4", node, "a decorator or an annotation")
    wanted = node.args
    if wanted.vararg or wanted.kwarg or wanted.posonlyargs:
        file.fault("L4", node, "a star or a slash among the parameters")
    if not all(map(is_plain_part, [value for value in wanted.defaults + wanted.kw_defaults if value is not None])):
        file.fault("L4", node, "a default value that is not plain")
    if any(part.annotation for part in wanted.args + wanted.kwonlyargs):
        file.fault("L21", node, "an annotation")
    if node.name.startswith("__") and (node.name not in DOUBLE or not isinstance(parent, ast.ClassDef)):
        file.fault("L5", node, "a double-underscore method")
    elif node.name in DOUBLE and node.name != "__init__":
        check_double(file, node)
    if node.name == "__init__" and any(isinstance(part, ast.Return) for part in ast.walk(node)):
        file.fault("L28", node, "__init__ with a return")
    if node.end_lineno - node.lineno >= 40:
        file.fault("L10", node, "more than 40 lines")


def check_double(file, node):
    """Such a method is one return that changes nothing; what may be returned is told by its name."""
    rows = [row for row in node.body if getattr(row, "value", None) not in file.docstrings]
    if len(rows) != 1 or not isinstance(rows[0], ast.Return) or not rows[0].value:
        file.fault("L28", node, "more than a return")
        return
    if [part.arg for part in node.args.args] != DOUBLE[node.name] or node.args.kwonlyargs or node.args.defaults:
        file.fault("L5", node, "other parameters")
    called = [part.func for part in ast.walk(node) if isinstance(part, ast.Call)]
    if any(getattr(func, "attr", getattr(func, "id", None)) not in CALLED_IN_DOUBLE for func in called):
        file.fault("L5 L28", node, "a call that may change something")
    func = getattr(rows[0].value, "func", None)
    if node.name == "__len__" and not (isinstance(func, ast.Name) and func.id == "len"):
        file.fault("L28", node, "__len__ that returns no len")
    if node.name == "__str__" and not (isinstance(func, ast.Name) and func.id == "str" or isinstance(
            func, ast.Attribute) and func.attr == "join" and isinstance(func.value, ast.Constant)):
        file.fault("L28", node, "__str__ that returns no str and no join")


def check_class(file, node):
    if not isinstance(file.parents[node], ast.Module) or node.decorator_list or node.keywords:
        file.fault("L5", node, "a class that is not plain")
    for base in node.bases:
        if not isinstance(base, ast.Name) or base.id not in [*file.own, "ValueError"]:
            file.fault("L5", node, "a base class that is not plain")
    for part in node.body:
        if not isinstance(part, ast.FunctionDef) and getattr(part, "value", None) not in file.docstrings:
            file.fault("L5", part, "a class value")
    methods = [part.name for part in node.body if isinstance(part, ast.FunctionDef)]
    if len(methods) != len(set(methods)):
        file.fault("L18", node, "a method is defined twice")


def check_statement(file, node):
    if isinstance(node, ast.Expr) and not isinstance(node.value, ast.Call) and node.value not in file.docstrings:
        file.fault("L6", node, "an expression on its own")
    if isinstance(node, ast.Raise) and (node.exc or enclosing(file, node, ast.ExceptHandler) is None):
        made = node.exc
        if node.cause or not isinstance(made, ast.Call) or not isinstance(made.func, ast.Name):
            file.fault("L19", node, "an error that is not created on the spot")
        elif made.func.id not in file.own:
            file.fault("L19", node, "an error that is not an own one")
    if isinstance(node, ast.Try) and (node.orelse or not all(map(is_counting, node.finalbody))):
        file.fault("L6", node, "a try with more than handlers and counting in the end")
    if isinstance(node, ast.ExceptHandler):
        check_handler(file, node)
    if isinstance(node, ast.AugAssign) and not isinstance(node.target, ast.Name) and not is_of_name(node.target):
        file.fault("L6", node, "an augmented assignment to no plain name and no attribute of one")
    if isinstance(node, ast.For):
        changed = changed_names(node.body)
        for name in [part.id for part in ast.walk(node.iter) if isinstance(part, ast.Name)]:
            if name in changed and not is_only_measured(file, node.iter, name):
                file.fault("L23", node, "a loop changes what it goes over: " + name)


def is_counting(node):
    """Whether it adds a literal number to an attribute of self."""
    return (isinstance(node, ast.AugAssign) and isinstance(node.op, ast.Add) and is_of_name(node.target)
            and node.target.value.id == "self" and isinstance(node.value, ast.Constant)
            and type(node.value.value) is int)


def is_of_name(node):
    """Whether it is an attribute of a name."""
    return isinstance(node, ast.Attribute) and isinstance(node.value, ast.Name)


def check_handler(file, node):
    if not isinstance(node.type, ast.Name) or node.type.id not in file.own:
        file.fault("L19", node, "a handler of something else than an own error")
    function = enclosing(file, node, ast.FunctionDef)
    others = {part.id for part in ast.walk(function) if isinstance(part, ast.Name) and isinstance(part.ctx, ast.Store)}
    others |= {part.arg for part in ast.walk(function) if isinstance(part, ast.arg)}
    others |= {part.name for part in ast.walk(function) if isinstance(part, ast.ExceptHandler) and part is not node}
    if node.name is not None and node.name in others | set(file.own) | BUILTINS:
        file.fault("L19", node, "the name of the error means something else, too")
    inside = list(ast.walk(node))
    for part in ast.walk(function):
        if isinstance(part, ast.Name) and part.id == node.name:
            if part not in inside or not isinstance(file.parents[part], ast.Attribute):
                file.fault("L19", part, "an error of which more than an attribute is read")


def changed_names(rows):
    """Return the names of which an item is assigned or a changing method is called in these rows."""
    changed = set()
    for node in [part for row in rows for part in ast.walk(row)]:
        if isinstance(node, ast.Subscript) and not isinstance(node.ctx, ast.Load):
            changed |= {part.id for part in ast.walk(node.value) if isinstance(part, ast.Name)}
        if isinstance(node, ast.Call) and isinstance(node.func, ast.Attribute):
            if node.func.attr in ("append", "extend", "insert", "pop", "setdefault"):
                changed |= {part.id for part in ast.walk(node.func.value) if isinstance(part, ast.Name)}
    return changed


def is_only_measured(file, source, name):
    """Whether the name stands in the head of a loop only as len(name)."""
    parents = [file.parents[part] for part in ast.walk(source) if isinstance(part, ast.Name) and part.id == name]
    return all(isinstance(parent, ast.Call) and isinstance(parent.func, ast.Name) and parent.func.id == "len"
               for parent in parents)


def check_expression(file, node):
    checks = {
        ast.Constant: check_constant, ast.Call: check_call, ast.Name: check_use, ast.Attribute: check_attribute,
        ast.Starred: check_star, ast.Compare: check_compare, ast.Dict: check_dict}
    if type(node) in checks:
        checks[type(node)](file, node)


def check_constant(file, node):
    if not isinstance(node.value, (int, str, type(None))):
        file.fault("L7", node, "a value of a kind that is not used")
    if isinstance(node.value, str):
        if chr(37) in node.value:
            file.fault("L27", node, "a percent sign in a string")
        words = set("".join(c if c.isalnum() or c == "_" else " " for c in node.value).split())
        if node not in file.docstrings and (words & (BARRED_WORDS - {"type"}) or "__" in node.value):
            file.fault("L17", node, "a barred word in a string")
        if any(word in node.value for word in ("dataclass", "overload", "contextmanager")):
            file.fault("L17", node, "a barred word in a string")
        if node.value.endswith(("._", ".__")) or node.value.startswith(("f_", "tb_", "co_")):
            file.fault("L27", node, "a barred string")


def check_call(file, node):
    named = [keyword.arg for keyword in node.keywords]
    if isinstance(node.func, ast.Attribute):
        if node.func.attr not in METHODS | file.methods:
            file.fault("L25", node, "a method that is not used: " + node.func.attr)
        if node.func.attr in METHODS and named:
            file.fault("L25", node, "a keyword with a method of a builtin value")
        if node.func.attr in VIEWS:
            check_at_once(file, node)
    elif isinstance(node.func, ast.Name):
        if node.func.id in CALLED_BUILTINS:
            check_builtin_call(file, node, named)
    else:
        file.fault("L7", node, "a call of something else than a name or an attribute")
    if any(isinstance(part, ast.Starred) for part in node.args) or None in named:
        file.fault("L7", node, "a call with a star")


def check_builtin_call(file, node, named):
    word = node.func.id
    if word in LAZY:
        check_at_once(file, node)
    if word == "set":
        parent = file.parents[node]
        called = isinstance(parent, ast.Call) and isinstance(parent.func, ast.Name) and parent.func.id
        if called not in ("sorted", "len") or parent.keywords or len(parent.args) != 1:
            file.fault("L24", node, "a set that is not sorted or measured at once")
    if named and (word not in ("sorted", "min", "max") or not set(named) <= {"key", "reverse"}):
        file.fault("L22", node, "keywords of a builtin")
    if named and word != "sorted" and "reverse" in named:
        file.fault("L22", node, "keywords of a builtin")


def check_at_once(file, node):
    parent = file.parents[node]
    if isinstance(parent, (ast.For, ast.comprehension)) and parent.iter is node:
        return
    called = isinstance(parent, ast.Call) and isinstance(parent.func, ast.Name) and parent.func.id
    if called not in AT_ONCE or parent.args[0] is not node or called in ("min", "max") and len(parent.args) > 1:
        file.fault("L23", node, "not iterated at once")


def check_use(file, node):
    if not isinstance(node.ctx, ast.Load):
        return
    parent = file.parents[node]
    function = enclosing(file, node, ast.FunctionDef)
    if node.id in file.own or function is not None and node.id in locals_of(function):
        return
    if isinstance(parent, ast.Call) and parent.func is node and node.id in CALLED_BUILTINS:
        return
    if is_second_of_isinstance(file, node, parent) and node.id in KINDS:
        return
    if isinstance(parent, ast.keyword) and parent.arg == "key" and node.id in KEYS:
        return
    if isinstance(parent, ast.ClassDef) and node.id == "ValueError":
        return
    file.fault("L8", node, "a name that is not known here: " + node.id)


def is_second_of_isinstance(file, node, parent):
    if isinstance(parent, ast.Tuple):
        node, parent = parent, file.parents[parent]
    return (isinstance(parent, ast.Call) and isinstance(parent.func, ast.Name) and parent.func.id == "isinstance"
            and len(parent.args) == 2 and parent.args[1] is node)


def locals_of(function):
    names = {part.arg for part in ast.walk(function) if isinstance(part, ast.arg)}
    names |= {part.name for part in ast.walk(function) if isinstance(part, ast.ExceptHandler)}
    return names | {part.id for part in ast.walk(function)
                    if isinstance(part, ast.Name) and isinstance(part.ctx, ast.Store)}


def check_attribute(file, node):
    parent = file.parents[node]
    if isinstance(parent, ast.Call) and parent.func is node:
        return
    if node.attr in METHODS:
        file.fault("L25", node, "a method that is passed on")


def check_star(file, node):
    over = isinstance(node.value, ast.Name) or is_of_name(node.value)
    if not isinstance(file.parents[node], (ast.List, ast.Tuple)) or not over:
        file.fault("L7", node, "a star outside of a list or a tuple, or not over a name or an attribute of one")


def check_compare(file, node):
    for sign, side in zip(node.ops, node.comparators):
        if isinstance(sign, (ast.Is, ast.IsNot)):
            if not isinstance(side, ast.Constant) or side.value not in (None, True, False):
                file.fault("L20", node, "is beside something else than None, True and False")


def check_dict(file, node):
    if None in node.keys:
        file.fault("L7", node, "a star in a dict")


def check_functions(file):
    """Own functions and classes are called, derived from, caught or a key=; nothing else happens to them."""
    for node in ast.walk(file.tree):
        if isinstance(node, ast.Name) and isinstance(node.ctx, ast.Load) and node.id in file.callables & set(file.own):
            parent = file.parents[node]
            called = isinstance(parent, ast.Call) and parent.func is node
            if is_second_of_isinstance(file, node, parent):
                continue
            if not called and not isinstance(parent, (ast.ClassDef, ast.keyword, ast.ExceptHandler)):
                file.fault("L18", node, "a function or class that is not called: " + node.id)
