import pathlib
import re
import unittest

from tests.language import defined_in, faults_of, imports_of, methods_and_values

PACKAGE = pathlib.Path(__file__).resolve().parent.parent / "calm"

# One row for each rule that is looked at: a file that breaks it.
BROKEN = (
    ("L2", "from os.path import join\n"),
    ("L2", "from .sums import plus\n"),
    ("L2", "from calm.sums import plus as add\n"),
    ("L3", "print(1)\n"),
    ("L3", "X = [[1]]\n"),
    ("L3", "X = len('a')\n"),
    ("L4", "def f(*xs):\n    return xs\n"),
    ("L4", "def f(a, *, b):\n    return a\n"),
    ("L5", "class C:\n    x = 1\n"),
    ("L6", "def f(x):\n    x\n"),
    ("L6", "def f(x):\n    a = b = x\n"),
    ("L6", "def f(x):\n    for y in x:\n        pass\n    else:\n        pass\n"),
    ("L6", "def f(x):\n    del x\n"),
    ("L6", "def f(x):\n    'what it does'\n"),
    ("L7", "def f(x):\n    return x / 2\n"),
    ("L7", "def f(x):\n    return 1.5\n"),
    ("L7", "def f(x):\n    return {y: y for y in x}\n"),
    ("L7", "def f(x):\n    return all(y for y in x)\n"),
    ("L7", "def f(x):\n    return [y for z in x for y in z]\n"),
    ("L7", "def f(x):\n    return f'{x[0]}'\n"),
    ("L7", "def f(x):\n    return [*x]\n"),
    ("L8", "def f(x):\n    return map(f, x)\n"),
    ("L10", "def f(x):\n" + "    x = 1\n" * 40),
    ("L10", "X = '" + "a" * 120 + "'\n"),
    ("L12", "def f(_):\n    return 1\n"),
    ("L14", "X = '\u00e9'\n"),
    ("L15", "def f(min):\n    return 1\n"),
    ("L15", "from calm.sums import plus\n\n\ndef f(plus):\n    return 1\n"),
    ("L15", "X = 1\nX = 2\n"),
    ("L17", "# the type of it\n"),
    ("L17", "def f(x):\n    return x.elements\n"),
    ("L19", "def f(x):\n    try:\n        return 1\n    except Exception:\n        return 2\n"),
    ("L20", "def f(x, y):\n    return x is y\n"),
    ("L21", "def f(x: int):\n    return x\n"),
    ("L23", "def f(x):\n    y = range(x)\n    return y\n"),
    ("L23", "def f(x):\n    y = x.items()\n    return y\n"),
    ("L24", "def f(x):\n    y = set(x)\n    return y\n"),
    ("L25", "def f(x):\n    x.sort()\n"),
    ("L27", "def f(x):\n    return 2 ** x\n"),
    ("L27", "X = '%'\n"),
)


def package_texts():
    return {path.stem: path.read_text(encoding="ascii") for path in sorted(PACKAGE.glob("*.py"))}


class Package(unittest.TestCase):
    def setUp(self):
        self.texts = package_texts()

    def test_only_plainly_named_files(self):
        for path in PACKAGE.iterdir():
            if path.name != "__pycache__":
                self.assertRegex(path.name, r"^([a-z][a-z0-9_]*|__init__)\.py$")

    def test_each_file_keeps_to_the_rules(self):
        methods = set().union(*(methods_and_values(text)[0] for text in self.texts.values()))
        for name, text in self.texts.items():
            self.assertEqual((name, faults_of(text, methods)), (name, []))

    def test_no_name_is_a_method_here_and_a_value_there(self):
        kinds = [methods_and_values(text) for text in self.texts.values()]
        methods = set().union(*(kind[0] for kind in kinds))
        values = set().union(*(kind[1] for kind in kinds))
        self.assertEqual(methods & values, set())

    def test_names_come_from_the_files_that_define_them(self):
        for name, text in self.texts.items():
            for node in imports_of(text):
                known = defined_in(self.texts[node.module.removeprefix("calm.")])
                for alias in node.names:
                    self.assertIn(alias.name, known, name)

    def test_every_import_is_used(self):
        for name, text in self.texts.items():
            for node in imports_of(text):
                for alias in node.names:
                    self.assertGreater(len(re.findall(rf"\b{alias.name}\b", text)), 1, (name, alias.name))

    def test_no_files_draw_from_one_another(self):
        drawn = {name: [node.module.removeprefix("calm.") for node in imports_of(text)]
                 for name, text in self.texts.items()}
        while drawn:
            free = [name for name in drawn if not set(drawn[name]) & set(drawn)]
            self.assertTrue(free, drawn)
            drawn = {name: drawn[name] for name in drawn if name not in free}


class Look(unittest.TestCase):
    def test_a_broken_rule_is_seen(self):
        for rule, text in BROKEN:
            self.assertIn(rule, [fault.split(" ")[0] for line, fault in faults_of(text)], text)
