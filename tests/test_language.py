import ast
import pathlib
import re
import unittest

from language import MOST_FUNCTION_LINES, MOST_LINES, PACKAGE, defined_names, faults

FOLDER = pathlib.Path(__file__).resolve().parent.parent / PACKAGE

# The names that the document's interface lists: under which file, and in which class, they are defined.
INTERFACE = {
    "errors": ("UndoError", "InvalidName", "InvalidNames", "InvalidAmount", "InvalidProgram", "InvalidText",
               "InvalidLength", "InvalidCount", "InvalidChanges", "InvalidObservations", "InvalidLimit", "InvalidLine",
               "NotAHistory", "NotAProgram", "NotAnEffect", "StateError", "CannotRevert", "Busy", "LimitError",
               "TooManyDiscarded"),
    "histories": ("History",),
    "programs": ("Program",),
    "outcomes": ("outcome", "outcomes", "word", "kept_dos"),
    "effects": ("Effect", "effect_of"),
    "building": ("program_for",),
    "comparing": ("same", "difference", "alike"),
    "bounds": ("bounds", "trimmed"),
    "observing": ("program_with", "conflict"),
    "editors": ("Editor", "CountingEditor", "GuardedEditor", "CountingGuardedEditor"),
    "checker": ("accepts",),
    "certificates": ("certify_effect", "certify_comparison", "certify_bounds", "certify_observations"),
    "console": ("Console",),
}
METHODS = {
    "History": ("__init__", "of", "line", "do", "undo", "redo", "__len__", "__contains__", "__eq__", "__str__",
                "__repr__"),
    "Program": ("__init__", "read", "is_command", "names", "each", "__call__", "__add__", "__len__", "__contains__",
                "__eq__", "__str__", "__repr__"),
    "Effect": ("__init__", "word", "last", "table", "__getitem__", "__iter__", "__add__", "__len__", "__eq__",
               "__repr__"),
    "Editor": ("__init__", "history", "log", "changed", "can_revert", "do", "undo", "redo", "perform", "save", "revert",
               "describe", "__len__", "__eq__"),
    "CountingEditor": ("discarded", "describe"),
    "GuardedEditor": ("limit", "change_limit"),
    "Console": ("__init__", "run"),
}

BAD_FILES = {
    "L2": "from .good import GOOD\n",
    "L2 top": "A = 1\nB = 2\nfrom undotables.good import GOOD\n",
    "L2 outside": "from re import match\n",
    "L3": "A, B = 1, 2\n",
    "L3 call": "A = len('a')\n",
    "L3 code": "def f():\n    pass\n\n\nf()\n",
    "L4": "def f(x, /):\n    return x\n",
    "L4 decorator": "class A:\n    @staticmethod\n    @f\n    def g():\n        pass\n",
    "L5": "class A:\n    def __hash__(self):\n        return 1\n",
    "L5 generator": "def f(xs):\n    return sum(x for x in xs)\n",
    "L5 change": "class A:\n    def __add__(self, other):\n        self.x = 1\n",
    "L5 called change": "def f(xs):\n    xs.append(1)\n\n\n"
                        "class A:\n    @property\n    def g(self):\n        return f(self)\n",
    "L5 made change": "class A:\n    def __init__(self, xs):\n        xs[0] = 1\n\n"
                      "    def __add__(self, other):\n        return A(other)\n",
    "L5 sum": "class A:\n    def __len__(self):\n        n = 1\n        n += n\n        return len(n)\n",
    "L5 item": "class A:\n    def __getitem__(self, at):\n        return at\n",
    "L5 reversed": "def f(xs):\n    return [x for x in reversed(xs)]\n",
    "L5 super": "class A:\n    def f(self):\n        return super().KIND\n",
    "L5 called call": "def f(x):\n    return x(1)(2)\n",
    "L5 class value": "class A:\n    KIND = [1]\n",
    "L5 class row": "class A:\n    if 1:\n        KIND = 1\n",
    "L6": "def f():\n    global A\n",
    "L6 finally": "def f(x):\n    try:\n        x()\n    finally:\n        x()\n",
    "L6 finally test": "def f(x):\n    try:\n        x()\n    finally:\n        if x:\n            x = 1\n",
    "L6 bare": "def f():\n    try:\n        pass\n    except:\n        pass\n",
    "L7": "def f(x):\n    return x / 2\n",
    "L7 float": "def f(x):\n    return x * 0.5\n",
    "L7 star": "def f(g, xs):\n    return g(*g(xs))\n",
    "L8": "def f(x):\n    return map(f, x)\n",
    "L8 chr": "def f(x):\n    return chr(x)\n",
    "L10 lines": "# \n" * (MOST_LINES + 1),
    "L10 function": "def f():\n" + "    f()\n" * MOST_FUNCTION_LINES,
    "L10 columns": "# " + "a" * 119 + "\n",
    "L12": "def _f():\n    pass\n",
    "L14": "# \u00e9\n",
    "L14 tab": "def f():\n\tpass\n",
    "L15": "def f(max):\n    return max\n",
    "L15 twice": "A = 1\nA = 2\n",
    "L16": "import undotables.good\n",
    "L16 outside": "import re\n",
    "L16 name": "from undotables.good import BAD\n",
    "L17": "# the type of it\n",
    "L17 part": "# a dataclassy one\n",
    "L17 name": "def f(id):\n    return 1\n",
    "L17 method": "class A:\n    def open(self):\n        return 1\n",
    "L18": "class A:\n    def f(self):\n        return 1\n\n    def f(self):\n        return 2\n",
    "L18 both": "class A:\n    def f(self):\n        self.f = 1\n",
    "L19": "def f():\n    try:\n        pass\n    except TypeError:\n        pass\n",
    "L19 raise": "def f(e):\n    raise e\n",
    "L20": "def f(x, y):\n    return x is y\n",
    "L23": "def f(xs):\n    return enumerate(xs)\n",
    "L24": "def f(xs):\n    return [x for x in set(xs)]\n",
    "L25": "def f(x):\n    return x.format(1)\n",
    "L26": "class A:\n    def __init__(self):\n        self.args = 1\n",
    "L27": "A = '%'\n",
    "L27 escape": "A = '\\x41'\n",
    "L27 power": "def f(n):\n    return 2 ** n\n",
    "L27 warning": "def f(n):\n    return 1if n else 2\n",
}


def texts():
    """The text of each module of the package."""
    return {module_name(path): path.read_text("ascii") for path in sorted(FOLDER.glob("*.py"))}


def module_name(path):
    return PACKAGE if path.stem == "__init__" else f"{PACKAGE}.{path.stem}"


class PackageTest(unittest.TestCase):
    def test_rules(self):
        self.assertEqual(faults(texts()), [])

    def test_files(self):
        for path in FOLDER.iterdir():
            if path.name != "__pycache__":
                self.assertTrue(path.is_file())
                self.assertTrue(re.fullmatch("__init__[.]py|[a-z0-9][a-z0-9_]*[.]py", path.name), path.name)
                self.assertFalse(re.match("law_|test|site|conftest|usercustomize", path.name), path.name)
        self.assertTrue((FOLDER / "__init__.py").is_file())

    def test_interface_is_defined_where_it_is_listed(self):
        for name, listed in INTERFACE.items():
            tree = ast.parse(texts()[f"{PACKAGE}.{name}"])
            self.assertEqual([word for word in listed if word not in defined_names(tree)], [])
            for node in tree.body:
                if isinstance(node, ast.ClassDef) and node.name in METHODS:
                    own = [part.name for part in node.body if isinstance(part, ast.FunctionDef)]
                    self.assertEqual([word for word in METHODS[node.name] if word not in own], [])


class RulesTest(unittest.TestCase):
    def test_what_is_allowed_is_not_told(self):
        self.assertEqual(faults({"undotables.good": '"""Good."""\n\nGOOD = 1\n'}), [])

    def test_each_rule_is_looked_at(self):
        for rule, text in BAD_FILES.items():
            with self.subTest(rule=rule):
                found = faults({"undotables.good": "GOOD = 1\n", "undotables.bad": text})
                word = rule.split(" ")[0]
                self.assertTrue([fault for fault in found if word in re.findall("L[0-9]+", fault)], found)

    def test_modules_that_import_each_other(self):
        found = faults({"undotables.one": "from undotables.two import B\n\nA = 1\n",
                        "undotables.two": "from undotables.one import A\n\nB = 1\n"})
        self.assertEqual(found, ["L16: modules import each other"])


if __name__ == "__main__":
    unittest.main()
