"""The package's files keep to LANGUAGE.md; and the check itself sees what it is there to see."""

import os
import unittest

from tests.language import PACKAGE, faults_of

FOLDER = os.path.join(os.path.dirname(os.path.dirname(os.path.abspath(__file__))), PACKAGE)

# One or more pieces of code for each rule that is checked, each of them outside that rule.
OUTSIDE = [
    ("L2", "import sys\n"),
    ("L2", "from os import path\n"),
    ("L2", "from .errors import NoKey\n"),
    ("L2", "X = 1\nfrom keyfold.errors import NoKey\n"),
    ("L2", "def f():\n    from keyfold.errors import NoKey\n    return NoKey()\n"),
    ("L3", "X = len('a')\n"),
    ("L3", "if True:\n    pass\n"),
    ("L4", "def f(*parts):\n    return parts\n"),
    ("L4", "def f(**parts):\n    return parts\n"),
    ("L4", "def f(a, *, b):\n    return a\n"),
    ("L4", "def f(a=len('a')):\n    return a\n"),
    ("L4", "def g():\n    return 1\n\n\n@g\ndef f():\n    return 1\n"),
    ("L5", "class A:\n    x = 1\n"),
    ("L5", "class A(int):\n    pass\n"),
    ("L6", "def f(a):\n    assert a\n"),
    ("L6", "def f(a):\n    with a:\n        return 1\n"),
    ("L6", "def f(a):\n    del a[0]\n"),
    ("L6", "def f(a):\n    for b in a:\n        pass\n    else:\n        pass\n"),
    ("L6", "def f(a):\n    b = c = a\n    return b\n"),
    ("L6", "def f(a):\n    try:\n        a[0]\n    finally:\n        pass\n"),
    ("L6", "def f(a):\n    a\n"),
    ("L6", "def f(a):\n    match a:\n        case 1:\n            return 1\n"),
    ("L7", "def f(a):\n    return a / 2\n"),
    ("L7", "def f():\n    return 1.5\n"),
    ("L7", "def f(a):\n    return all(b for b in a)\n"),
    ("L7", "def f(a):\n    return {b: 1 for b in a}\n"),
    ("L7", "def f(a):\n    return [b for c in a for b in c]\n"),
    ("L7", "def f(a):\n    return [b for b in a if b if b > 1]\n"),
    ("L7", "def f(a):\n    return [*a]\n"),
    ("L7", "def f(a):\n    return (b := a)\n"),
    ("L7", "def f(a):\n    return f'{a + 1}'\n"),
    ("L7", "def f(a):\n    return f'{a:3}'\n"),
    ("L7", "def f(a):\n    yield a\n"),
    ("L8", "def f(a):\n    return hash(a)\n"),
    ("L8", "def f(a):\n    return print(a)\n"),
    ("L8", "def f(a):\n    return chr(a)\n"),
    ("L8", "def f(a):\n    return '{}'.format(a)\n"),
    ("L8", "def len(a):\n    return a\n"),
    ("L10", "X = 1" + " " * 120 + "\n"),
    ("L10", "def f(a):\n" + "    a = 1\n" * 40),
    ("L10", "# long\n" * 401),
    ("L12", "def f(_a):\n    return 1\n"),
    ("L12", "def _f(a):\n    return a\n"),
    ("L12", "def f(a):\n    return [1 for _ in a]\n"),
    ("L13", "def f(a):\n    return len({1, 2, 3}) == a\n"),
    ("L13", "def f(a):\n    return [lambda b: b, lambda b: 1]\n"),
    ("L14", "# caf\u00e9\n"),
    ("L15", "X = 1\nX = 2\n"),
    ("L15", "X = [[1]]\n"),
    ("L15", "X = {}\n\n\ndef f(a):\n    X[a] = 1\n"),
    ("L15", "X = []\n\n\ndef f(a):\n    X.append(a)\n"),
    ("L15", "X = []\n\n\ndef f():\n    return X\n"),
    ("L15", "def f(id):\n    return id\n"),
    ("L15", "def f(a):\n    min = a\n    return min\n"),
    ("L15", "from keyfold.errors import NoKey\n\n\ndef f(NoKey):\n    return 1\n"),
    ("L16", "from keyfold.errors import Nothing\n"),
    ("L16", "from keyfold.piece import f\n\n\ndef f():\n    return 1\n"),
    ("L17", "def f(a):\n    return getattr(a, 'b')\n"),
    ("L17", "# of this type\n"),
    ("L17", "# an overloaded one\n"),
    ("L18", "class A:\n    pass\n\n\ndef f():\n    return A\n"),
    ("L18", "class A:\n    def f(self):\n        return 1\n\n    def f(self):\n        return 2\n"),
    ("L19", "def f(a):\n    try:\n        return a[0]\n    except Exception:\n        return 1\n"),
    ("L19", "def f(a):\n    try:\n        return a[0]\n    except TypeError:\n        return 1\n"),
    ("L19", "def f(a):\n    try:\n        return a[0]\n    except:\n        return 1\n"),
    ("L19", "def f(a):\n    try:\n        return f(a[0])\n    except ValueError:\n        return 1\n"),
    ("L19", "def f(a):\n    raise a\n"),
    ("L19", "def f():\n    raise ValueError('no')\n"),
    ("L20", "def f(a, b):\n    return a is b\n"),
    ("L21", "def f(a: int):\n    return a\n"),
    ("L21", "def f(a) -> int:\n    return a\n"),
    ("L22", "def f(a):\n    return [len, a]\n"),
    ("L22", "def f(a):\n    return a.split(sep='b')\n"),
    ("L22", "def f(a):\n    return int('1', base=a)\n"),
    ("L23", "def f(a):\n    b = zip(a, a)\n    return b\n"),
    ("L23", "def f(a):\n    return a.items()\n"),
    ("L23", "def f(a):\n    for b in a:\n        a.append(b)\n"),
    ("L23", "def f(a):\n    for b, c in enumerate(a):\n        a[b] = c\n"),
    ("L24", "def f(a):\n    b = set(a)\n    return b\n"),
    ("L24", "def f(a):\n    for b in set(a):\n        return b\n"),
    ("L25", "def f(a):\n    return a.title()\n"),
    ("L25", "def f(a):\n    return a.sort()\n"),
    ("L25", "def f(a):\n    return a.append\n"),
    ("L26", "class A:\n    def title(self):\n        return 1\n"),
    ("L26", "class A:\n    def __init__(self):\n        self.items = 1\n"),
    ("L27", "def f(a):\n    return 2 ** a\n"),
    ("L27", "X = '50%'\n"),
    ("L27", "X = '\\x41'\n"),
    ("L28", "class A:\n    def __init__(self):\n        return None\n"),
]
WITHIN = '''"""A piece that keeps to every rule."""

from keyfold.errors import NoKey

WORDS = ("one", "two")
NUMBERS = {"one": 1, "two": 2}


class Store:
    def __init__(self, start):
        self.start = start
        self.held = []

    def put(self, part):
        self.held.append(part)


def number_of(word, spare=None):
    if word not in WORDS:
        raise NoKey(f"no word: {word!r}")
    return NUMBERS[word] if spare is None else spare


def marks(parts):
    store = Store(len(set(parts)))
    for place, part in enumerate(sorted(parts, key=lambda text: len(text))):
        store.put((place, part, 2 ** 3))
    try:
        store.put(number_of("three"))
    except NoKey:
        store.put(-1)
    return [mark for mark in store.held if mark not in (1, 2)]
'''


def package_sources():
    sources = {}
    for folder, folders, files in os.walk(FOLDER):
        if "__pycache__" in folders:
            folders.remove("__pycache__")
        for file in files:
            path = os.path.join(folder, file)
            with open(path, encoding="utf-8", newline="") as opened:
                sources[os.path.relpath(path, FOLDER)] = opened.read()
    return sources


def with_piece(text, name="piece.py"):
    errors = "class NoKey(ValueError):\n    pass\n"
    return faults_of({"__init__.py": "", "errors.py": errors, name: text})


class Language(unittest.TestCase):
    def test_the_package_keeps_to_the_rules(self):
        self.assertEqual(faults_of(package_sources()), [])

    def test_the_files_that_are_promised_are_read(self):
        names = "__init__ answers asking counting cutting errors folding pairs reading rows sheets things twins writing"
        for name in names.split():
            self.assertIn(name + ".py", package_sources())

    def test_code_within_the_rules_has_no_fault(self):
        self.assertEqual(with_piece(WITHIN), [])

    def test_code_outside_a_rule_is_seen(self):
        for rule, text in OUTSIDE:
            with self.subTest(rule=rule, text=text[:80]):
                self.assertIn(rule, [fault[0] for fault in with_piece(text)])

    def test_file_names(self):
        wrong = [("L1", "Piece.py"), ("L1", "a-b.py"), ("L14", "tests.py"), ("L14", "test_a.py"), ("L14", "sum.py")]
        for rule, name in wrong:
            with self.subTest(name=name):
                self.assertIn(rule, [fault[0] for fault in with_piece("X = 1\n", name)])

    def test_files_that_draw_from_one_another(self):
        one = "from keyfold.other import g\n\n\ndef f():\n    return g()\n"
        other = "from keyfold.one import f\n\n\ndef g():\n    return f()\n"
        faults = faults_of({"__init__.py": "", "one.py": one, "other.py": other})
        self.assertEqual([fault[:2] for fault in faults], [("L16", "one.py"), ("L16", "other.py")])


if __name__ == "__main__":
    unittest.main()
