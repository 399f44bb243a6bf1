import ast
import pathlib
import re
import unittest

import language

PACKAGE = "pagewalks"
FOLDER = pathlib.Path(__file__).resolve().parent.parent / PACKAGE


def texts():
    return {path.stem: path.read_text(encoding="utf-8") for path in sorted(FOLDER.glob("*.py"))}


class Kept(unittest.TestCase):
    def test_only_plain_files_lie_in_the_package(self):
        for path in FOLDER.iterdir():
            if path.name != "__pycache__":
                with self.subTest(path.name):
                    self.assertRegex(path.name, r"^(__init__|__main__|[a-z][a-z0-9_]*)\.py$")
        self.assertTrue((FOLDER / "__init__.py").is_file())

    def test_each_file_keeps_to_the_language(self):
        known = set()
        for text in texts().values():
            known |= language.own_methods(ast.parse(text))
        for name, text in texts().items():
            with self.subTest(name):
                self.assertEqual(language.faults(text, PACKAGE, known), [])

    def test_methods_and_values_over_the_whole_package(self):
        trees = [ast.parse(text) for text in texts().values()]
        methods = set().union(*[language.own_methods(tree) for tree in trees])
        values = set().union(*[language.own_values(tree) for tree in trees])
        self.assertEqual(list(language.class_faults(methods, values)), [])

    def test_each_name_is_drawn_from_the_file_that_defines_it(self):
        files = texts()
        for name, text in files.items():
            for node in ast.parse(text).body:
                if isinstance(node, ast.ImportFrom):
                    source = language.defined(files[node.module.rpartition(".")[2]])
                    for each in node.names:
                        with self.subTest(name, drawn=each.name):
                            self.assertIn(each.name, source)

    def test_no_two_files_draw_from_one_another(self):
        drawn = {name: [each.rpartition(".")[2] for each in language.drawn_from(text)]
                 for name, text in texts().items()}
        settled = set()
        while len(settled) < len(drawn):
            ready = [name for name in drawn if name not in settled and set(drawn[name]) <= settled]
            self.assertTrue(ready, "files draw from one another")
            settled.update(ready)


class Seen(unittest.TestCase):
    """The look itself sees what is ruled out: else a pass would tell nothing."""

    def assert_seen(self, rule, text):
        found = language.faults(text, PACKAGE)
        self.assertTrue(any(re.search(rf"\b{rule}\b", each) for each in found), (rule, text, found))

    def test_plain_code_passes(self):
        text = '"""Why."""\n\nfrom pagewalks.errors import NoLink\n\nMOST = 3\n\n\ndef more(some):\n' \
               '    return [each + MOST for each in some if each is not None]\n'
        self.assertEqual(language.faults(text, PACKAGE), [])

    def test_what_is_ruled_out_is_seen(self):
        for rule, text in [
            ("L2", "from math import gcd\n"),
            ("L2", "from .errors import NoLink\n"),
            ("L3", "print(1)\n"),
            ("L3", "XS = list((1, 2))\n"),
            ("L4", "def f(*args):\n    return args\n"),
            ("L5", "class A(int, str):\n    pass\n"),
            ("L6", "def f():\n    with g as h:\n        pass\n"),
            ("L6", "def f(a):\n    b = c = a\n    return b\n"),
            ("L6", "def f(a):\n    for b in a:\n        pass\n    else:\n        pass\n"),
            ("L7", "def f(a):\n    return a / 2\n"),
            ("L7", "def f(a):\n    return 1.5\n"),
            ("L7", "def f(a):\n    return any(b for b in a)\n"),
            ("L7", "def f(a):\n    return {b: 1 for b in a}\n"),
            ("L7", "def f(a):\n    return f'{a[0]}'\n"),
            ("L7", "def f(a):\n    return f'{a:>3}'\n"),
            ("L8", "def f(a):\n    return hash(a)\n"),
            ("L8", "def f(a):\n    return chr(a)\n"),
            ("L10", "A = 1\n" * 401),
            ("L10", "def f(a):\n" + "    a = a + 1\n" * 40),
            ("L10", "A = " + "1" * 120 + "\n"),
            ("L12", "def _f(a):\n    return a\n"),
            ("L14", "# \u00e4\n"),
            ("L14", "def f(a):\n\treturn a\n"),
            ("L15", "A = 1\nA = 2\n"),
            ("L15", "def f(sum):\n    return sum\n"),
            ("L15", "from pagewalks.webs import even\n\n\ndef f(even):\n    return even\n"),
            ("L15", "from pagewalks.webs import even\n\n\ndef f(a):\n    even = a\n    return even\n"),
            ("L17", "# the type of a thing\n"),
            ("L17", "def f(a):\n    return a.format\n"),
            ("L18", "class A:\n    def now(self):\n        self.now = 1\n"),
            ("L19", "def f(a):\n    try:\n        return a\n    except Exception:\n        return 1\n"),
            ("L20", "def f(a):\n    return a is f\n"),
            ("L21", "def f(a: int):\n    return a\n"),
            ("L22", "def f(a):\n    return sorted(a, cmp=f)\n"),
            ("L22", "def f(a):\n    return a.split(sep=a)\n"),
            ("L23", "def f(a):\n    b = zip(a, a)\n    return b\n"),
            ("L23", "def f(a):\n    return a.items()\n"),
            ("L24", "def f(a):\n    return [b for b in set(a)]\n"),
            ("L25", "def f(a):\n    a.sort()\n"),
            ("L26", "class A:\n    def __init__(self):\n        self.items = 1\n"),
            ("L26", "class A:\n    def encode(self):\n        return 1\n"),
            ("L27", "def f(a):\n    return 2 ** a\n"),
            ("L27", 'A = "%"\n'),
        ]:
            with self.subTest(rule, text=text[:40]):
                self.assert_seen(rule, text)
