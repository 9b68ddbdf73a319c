"""The rules L1 to L28 of LANGUAGE.md, as tests/form.py looks for them."""

import os
import unittest

from tests.form import PACKAGE, faults_of

FOLDER = os.path.join(os.path.dirname(os.path.dirname(os.path.abspath(__file__))), PACKAGE)

# Code that breaks a rule, with the rule.
BAD = (
    ("L2", "import math\n"),
    ("L2", "from math import gcd\n\n\ndef f(a):\n    return gcd(a, a)\n"),
    ("L2", "from .kinds import is_name\n\n\ndef f(a):\n    return is_name(a)\n"),
    ("L2", "def f(a):\n    from chosenlast.kinds import is_name\n    return is_name(a)\n\n\nimport sys\n"),
    ("L2", "from chosenlast.kinds import is_name\n"),
    ("L16", "from chosenlast.kinds import nothing\n\n\ndef f(a):\n    return nothing(a)\n"),
    ("L16", "from chosenlast.kinds import is_name as named\n\n\ndef f(a):\n    return named(a)\n"),
    ("L3", "A, B = 1, 2\n"),
    ("L3", "A = len('a')\n"),
    ("L3", "print(1)\n"),
    ("L3", "if 1:\n    pass\n"),
    ("L4", "def f(a):\n    def g(b):\n        return b\n    return g(a)\n"),
    ("L4", "def f(*a):\n    return a\n"),
    ("L4", "def f(a=[]):\n    return a\n"),
    ("L5", "class A:\n    def __hash__(self):\n        return 1\n"),
    ("L5", "class A:\n    B = 1\n"),
    ("L5", "def __len__(self):\n    return len(self.a)\n"),
    ("L5", "class A:\n    def __eq__(self, a):\n        return self.b == a.b\n"),
    ("L28", "class A:\n    def __eq__(self, other):\n        self.a = 1\n        return self.a == other.a\n"),
    ("L28", "class A:\n    def __eq__(self, other):\n        return self.f() == other.f()\n"),
    ("L28", "class A:\n    def __len__(self):\n        return self.a\n"),
    ("L28", "class A:\n    def __str__(self):\n        return self.a\n"),
    ("L19", "def f(a):\n    try:\n        return a[0]\n    except IndexError:\n        return 0\n"),
    ("L19", "def f(a):\n    try:\n        return a[0]\n    except:\n        return 0\n"),
    ("L6", "def f(a):\n    try:\n        return a[0]\n    finally:\n        a = 0\n"),
    ("L6", "class A:\n    def f(self):\n        try:\n            return 1\n        finally:\n"
           "            self.a += self.f()\n"),
    ("L6", "def f(a):\n    try:\n        a = 1\n    finally:\n        return a\n"),
    ("L6", "def f(a):\n    a[0].b += 1\n"),
    ("L6", "def f(a):\n    global B\n    B = a\n"),
    ("L6", "def f(a):\n    a == 1\n"),
    ("L7", "def f(a):\n    return a / 2\n"),
    ("L7", "def f(a):\n    return 0.5\n"),
    ("L7", "def f(a):\n    return sum(x for x in a)\n"),
    ("L7", "def f(a):\n    return {1, a}\n"),
    ("L7", "def f(a):\n    return max(*a)\n"),
    ("L8", "def f(a):\n    return hash(a)\n"),
    ("L8", "def f(a):\n    return print\n"),
    ("L8", "def f(a):\n    return b\n"),
    ("L10", "def f(a):\n" + "    a = a + 1\n" * 40),
    ("L10", "A = 1\n" * 400),
    ("L10", "A = '" + "a" * 120 + "'\n"),
    ("L12", "def f(a, _):\n    return _\n"),
    ("L12", "def f(__a):\n    return 1\n"),
    ("L14", "A = '\u00e4'\n"),
    ("L15", "A = 1\nA = 2\n"),
    ("L15", "def f(list):\n    return list\n"),
    ("L15", "from chosenlast.kinds import is_name\n\n\ndef f(a):\n    is_name = a\n    return is_name\n"),
    ("L17", "def f(register):\n    return register\n"),
    ("L17", "A = 'an Enum'\n"),
    ("L18", "from chosenlast.kinds import is_name\n\n\ndef f(a):\n    return [is_name]\n"),
    ("L19", "def f(a):\n    raise ValueError(a)\n"),
    ("L19", "def f(a):\n    raise a\n"),
    ("L19", "def f(a):\n    raise\n"),
    ("L19", "class E(ValueError):\n    pass\n\n\ndef f(a):\n    try:\n        f(a)\n    except E as e:\n"
            "        return e\n"),
    ("L19", "class E(ValueError):\n    pass\n\n\ndef f(a):\n    try:\n        f(a)\n    except E as e:\n"
            "        e = a\n"),
    ("L19", "class E(ValueError):\n    pass\n\n\ndef f(a):\n    try:\n        f(a)\n    except E as a:\n"
            "        return 1\n"),
    ("L20", "def f(a):\n    return a is 'b'\n"),
    ("L21", "def f(a: int):\n    return a\n"),
    ("L22", "def f(a):\n    return sum(a, start=1)\n"),
    ("L23", "def f(a):\n    return zip(a, a)\n"),
    ("L23", "def f(a):\n    for b in a:\n        a.append(b)\n"),
    ("L24", "def f(a):\n    return set(a)\n"),
    ("L24", "def f(a):\n    b = [x for x in set(a)]\n    return b\n"),
    ("L25", "def f(a):\n    a.sort()\n"),
    ("L25", "def f(a):\n    b = a.append\n    b(1)\n"),
    ("L27", "A = '" + chr(37) + "'\n"),
    ("L27", "A = '\\x00'\n"),
    ("L28", "class A:\n    def __init__(self):\n        return None\n"),
)


def package_files():
    """Return the files of the package as a dict from names to texts."""
    files = {}
    for name in sorted(os.listdir(FOLDER)):
        if name != "__pycache__":
            with open(os.path.join(FOLDER, name), encoding="utf-8") as file:
                files[name] = file.read()
    return files


class FormTests(unittest.TestCase):

    def test_package(self):
        files = package_files()
        self.assertIn("__init__.py", files)
        self.assertEqual(faults_of(files), [])

    def test_bad_code_is_found(self):
        kinds = package_files()["kinds.py"]
        for rule, text in BAD:
            faults = faults_of({"kinds.py": kinds, "bad.py": text})
            self.assertTrue(any(rule in fault.split(": ")[1].split() for fault in faults), (rule, text, faults))

    def test_bad_files_are_found(self):
        for name in ("Upper.py", "test_a.py", "filter.py", "type.py", "notes.txt"):
            self.assertNotEqual(faults_of({name: ""}), [], name)
        circle = {"a.py": "from chosenlast.b import g\n\n\ndef f():\n    return g()\n",
                  "b.py": "from chosenlast.a import f\n\n\ndef g():\n    return f()\n"}
        self.assertEqual(len(faults_of(circle)), 2)
        self.assertTrue(all("L16" in fault for fault in faults_of(circle)))


if __name__ == "__main__":
    unittest.main()
