import pathlib
import unittest

from language_rules import problems

PACKAGE = pathlib.Path(__file__).resolve().parent.parent / "formsmith"

GOOD = '"""Good."""\n\nMOST = 4\n\n\ndef f(thing, most):\n    return [part for part in thing if part is None]\n'

# Each is outside of the rule that stands beside it.
BAD = (
    ("L2", "import sys\n"), ("L2", "from os import path\n"), ("L2", "from .a import f\n"),
    ("L2", "def f(a):\n    from formsmith.good import f\n    return f(a)\n"),
    ("L3", "x = len('a')\n"), ("L3", "print\n"), ("L3", "if True:\n    pass\n"),
    ("L4", "def f(*xs):\n    pass\n"), ("L4", "def f(**xs):\n    pass\n"), ("L4", "def f(*, a):\n    pass\n"),
    ("L5", "class A:\n    x = 1\n"), ("L5", "class A(KeyError, ValueError):\n    pass\n"),
    ("L6", "def f(a):\n    assert a\n"), ("L6", "def f(a):\n    for b in a:\n        pass\n    else:\n        pass\n"),
    ("L6", "def f(a):\n    b = c = a\n"), ("L6", "def f(a):\n    try:\n        pass\n    finally:\n        pass\n"),
    ("L7", "def f(a):\n    return a / 2\n"), ("L7", "def f(a):\n    return 1.5\n"),
    ("L7", "def f(a):\n    return any(b for b in a)\n"), ("L7", "def f(a):\n    return {b: b for b in a}\n"),
    ("L7", "def f(a):\n    return [c for b in a for c in b]\n"), ("L7", "def f(a):\n    return f'{a[0]}'\n"),
    ("L8", "def f(a):\n    return hash(a)\n"), ("L8", "def f(a):\n    return chr(a)\n"),
    ("L10", "def f(a):\n" + "    a = 1\n" * 40), ("L10", "# " + "x" * 119 + "\n"), ("L10", "# x\n" * 401),
    ("L12", "def f(_a):\n    pass\n"), ("L14", "# \u00e9\n"), ("L15", "x = 1\nx = 2\n"), ("L3", "x = [[1]]\n"),
    ("L15", "def f(id):\n    pass\n"), ("L16", "from formsmith.good import g\n"),
    ("L17", "# type\n"), ("L17", "def f(a):\n    a.mro = 1\n"), ("L19", "def f(a):\n    try:\n        a()\n    except:\n        pass\n"),
    ("L20", "def f(a, b):\n    return a is b\n"), ("L22", "def f(a):\n    return isinstance(a, set)\n"),
    ("L25", "def f(a):\n    return a.title()\n"), ("L27", "x = '" + chr(37) + "'\n"), ("L27", "x = '\\x41'\n"),
    ("L27", "def f(a):\n    return 2 ** a\n"), ("L6", "def f(a):\n    'told'\n    return a\n"),
    ("L18", "class A:\n    def a(self):\n        pass\n\n\nclass B:\n    def __init__(self):\n        self.a = 1\n"),
    ("L22", "def f(a):\n    return a.split(sep='x')\n"), ("L22", "def f(a):\n    return sorted(a, start=1)\n"),
    ("L23", "def f(a):\n    b = zip(a, a)\n    return b\n"), ("L23", "def f(a):\n    return a.keys()\n"),
    ("L24", "def f(a):\n    b = set(a)\n    return b\n"), ("L24", "def f(a):\n    for b in set(a):\n        return b\n"),
    ("L26", "class A:\n    def title(self):\n        pass\n"),
    ("L26", "class A:\n    def __init__(self):\n        self.real = 1\n"),
)


class LanguageTests(unittest.TestCase):

    def test_the_package_keeps_to_the_rules(self):
        sources = {path.name: path.read_text("utf-8") for path in sorted(PACKAGE.glob("*.py"))}
        self.assertIn("__init__.py", sources)
        self.assertEqual(problems(sources), [])

    def test_nothing_else_lies_in_the_package(self):
        others = [path.name for path in PACKAGE.iterdir() if path.suffix != ".py" and path.name != "__pycache__"]
        self.assertEqual(others, [])

    def test_good_code_has_no_problems(self):
        self.assertEqual(problems({"__init__.py": "", "good.py": GOOD}), [])

    def test_bad_code_is_found(self):
        for rule, text in BAD:
            found = problems({"__init__.py": "", "good.py": GOOD, "bad.py": text})
            self.assertIn(("bad.py", rule), [(name, told) for name, line, told in found], text[:80])

    def test_files_that_draw_from_one_another_are_found(self):
        one, two = "from formsmith.b import g\n\n\ndef f():\n    return g()\n", "from formsmith.a import f\n\ng = 1\n"
        found = problems({"__init__.py": "", "a.py": one, "b.py": two})
        self.assertIn(("a.py", 1, "L16"), found)


if __name__ == "__main__":
    unittest.main()
