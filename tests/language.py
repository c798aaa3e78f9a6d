"""Looks at the files of the package for what LANGUAGE.md forbids, as far as a small script can see it."""
import ast
import builtins
import io
import re
import tokenize
import warnings

PACKAGE = "undotables"
MOST_LINES = 399
MOST_FUNCTION_LINES = 40
MOST_COLUMNS = 120

BARRED_WORDS = ("type typing typing_extensions enum Enum IntEnum StrEnum Flag IntFlag Generic Protocol ABC ABCMeta "
                "namedtuple NamedTuple TypedDict TYPE_CHECKING abstractmethod").split()
BARRED_PARTS = ("dataclass", "overload", "contextmanager")
BARRED_NAMES = "register mro elements open input law version_info with_traceback add_note".split()
BARRED_BINDINGS = ("attrgetter breakpoint builtins compile copyright credits delattr dir eval exec exit gc getattr "
                   "globals hasattr help id importlib license locals methodcaller os quit setattr super type vars "
                   "sys iter next").split()
BARRED_ATTRIBUTES = ("items keys values pop update append clear extend insert remove reverse setdefault sort args "
                     "encode decode hex fromhex format format_map mro").split()
BUILTINS = ("len range enumerate zip min max sum abs sorted reversed int str bool bytes list tuple dict set frozenset "
            "isinstance ord repr any all divmod Exception ValueError TypeError KeyError IndexError LookupError "
            "ZeroDivisionError ArithmeticError OverflowError RuntimeError NotImplementedError AttributeError "
            "StopIteration NotImplemented iter next super property staticmethod classmethod").split()
UNCAUGHT = ("Exception BaseException TypeError ArithmeticError OverflowError RuntimeError NotImplementedError "
            "AttributeError").split()
METHODS = ("append clear copy count endswith extend find get index insert isalnum isalpha isdigit islower isspace "
           "isupper items join keys ljust lower lstrip partition pop remove replace reverse rfind rjust rpartition "
           "rsplit rstrip setdefault split splitlines startswith strip update upper values zfill bit_length title "
           "capitalize swapcase casefold center expandtabs removeprefix removesuffix rindex isascii isdecimal "
           "isnumeric istitle isidentifier isprintable translate maketrans encode hex add discard sort").split()
SPECIAL_METHODS = ["__" + name + "__" for name in (
    "init eq repr str len enter exit call iter lt le gt ge ne add sub mul floordiv mod pow and or xor lshift rshift "
    "radd rsub rmul rfloordiv rmod rand ror rxor rlshift rrshift iadd isub imul ifloordiv imod ipow iand ior ixor "
    "ilshift irshift neg pos invert abs bool contains getitem setitem").split()]
TAKES_A_LIST = "sum min max sorted any all".split()
TAKES_ITERATION = "list tuple dict sorted sum any all enumerate zip bytes min max".split()
MAY_CHANGE = "__init__ __call__ __enter__ __exit__ __setitem__".split()
CHANGES = "append extend insert pop remove reverse clear update setdefault sort add discard".split()
FUNCTIONS = (ast.FunctionDef, ast.Lambda)
FORBIDDEN_NODES = (ast.Global, ast.AsyncFunctionDef, ast.AsyncFor, ast.AsyncWith, ast.Await, ast.Div)


def text_faults(text):
    """What is wrong with the characters, lines and words of a file."""
    for number, line in enumerate(text.split("\n"), 1):
        if len(line) > MOST_COLUMNS:
            yield f"L10: line {number} is too long"
        if [character for character in line if not " " <= character <= "~"]:
            yield f"L14: a character of line {number}"
    if len(text.splitlines()) > MOST_LINES:
        yield "L10: too many lines"
    words = re.findall("[A-Za-z0-9_]+", text)
    yield from [f"L17: the word {word}" for word in BARRED_WORDS if word in words]
    yield from [f"L17: the word {part}" for part in BARRED_PARTS if part in text]


def token_faults(text):
    """What is wrong with the string literals of a file."""
    for token in tokenize.generate_tokens(io.StringIO(text).readline):
        if token.type == tokenize.STRING or tokenize.tok_name[token.type].startswith("FSTRING"):
            if "%" in token.string:
                yield f"L27: a percent sign in line {token.start[0]}"
            if re.search(r"\\[^nt\\\"']", token.string):
                yield f"L27: an escape in line {token.start[0]}"


def parsed(text):
    """The tree of a file; warning_faults tells the warnings of it."""
    with warnings.catch_warnings():
        warnings.simplefilter("ignore")
        return ast.parse(text)


def warning_faults(text):
    with warnings.catch_warnings(record=True) as told:
        warnings.simplefilter("always")
        compile(text, "file", "exec")
    return [f"L27: {warning.message}" for warning in told]


def plain(node, known):
    """True if this is a value that may stand at module level."""
    if isinstance(node, (ast.List, ast.Tuple)):
        return all(plain(part, known) for part in node.elts)
    if isinstance(node, ast.Dict):
        return all(plain(part, known) for part in node.keys + node.values)
    if isinstance(node, ast.UnaryOp):
        return plain(node.operand, known)
    if isinstance(node, ast.BinOp):
        return plain(node.left, known) and plain(node.right, known)
    return isinstance(node, ast.Constant) or isinstance(node, ast.Name) and node.id in known


def is_docstring(node):
    return isinstance(node, ast.Expr) and isinstance(node.value, ast.Constant) and isinstance(node.value.value, str)


def module_faults(tree):
    """What is wrong with the statements that stand outside of functions and classes."""
    known, imports_end = [], False
    for at, node in enumerate(tree.body):
        if isinstance(node, (ast.FunctionDef, ast.ClassDef)):
            names = [node.name]
        elif isinstance(node, ast.ImportFrom):
            names = [alias.asname or alias.name for alias in node.names]
            if imports_end:
                yield f"L2: the import of line {node.lineno} does not stand at the top"
        elif isinstance(node, ast.Assign) and len(node.targets) == 1 and isinstance(node.targets[0], ast.Name):
            names = [node.targets[0].id]
            if not plain(node.value, known):
                yield f"L3: the value of {names[0]}"
        else:
            names = []
            if at > 0 or not is_docstring(node):
                yield f"L3: line {node.lineno}"
        imports_end = imports_end or at > 0 and not isinstance(node, ast.ImportFrom)
        yield from [f"L15: {name} is bound twice" for name in names if name in known]
        known.extend(names)


def import_faults(tree, defined):
    """What is wrong with the imports, if `defined` maps each module of the package to the names it defines."""
    for node in ast.walk(tree):
        if isinstance(node, ast.Import):
            yield f"L16: line {node.lineno}"
        if isinstance(node, ast.ImportFrom) and node.module != "__future__":
            if node.level or node.module not in defined:
                yield f"L2: {node.module}"
            else:
                yield from [f"L16: {alias.name} of {node.module}" for alias in node.names
                            if alias.name not in defined[node.module]]


def defined_names(tree):
    """The functions, classes and values that a file defines itself."""
    names = [node.name for node in tree.body if isinstance(node, (ast.FunctionDef, ast.ClassDef))]
    return names + [target.id for node in tree.body if isinstance(node, ast.Assign)
                    for target in node.targets if isinstance(target, ast.Name)]


def imported_modules(tree):
    return [node.module for node in tree.body if isinstance(node, ast.ImportFrom)]


def bound_names(tree):
    """All names that a file gives a meaning, but for those of methods and attributes."""
    methods = [node for kind in ast.walk(tree) if isinstance(kind, ast.ClassDef) for node in kind.body]
    for node in ast.walk(tree):
        if isinstance(node, ast.Name) and not isinstance(node.ctx, ast.Load):
            yield node.id
        elif isinstance(node, ast.ClassDef) or isinstance(node, ast.FunctionDef) and node not in methods:
            yield node.name
        elif isinstance(node, ast.arg):
            yield node.arg
        elif isinstance(node, ast.alias):
            yield node.asname or node.name
        elif isinstance(node, (ast.ExceptHandler, ast.MatchAs, ast.MatchStar)) and node.name:
            yield node.name


def member_names(tree):
    """The methods, and the attributes that are assigned."""
    methods, attributes = [], []
    for node in ast.walk(tree):
        if isinstance(node, ast.ClassDef):
            methods.extend([part.name for part in node.body if isinstance(part, ast.FunctionDef)])
            attributes.extend([part.targets[0].id for part in node.body if isinstance(part, ast.Assign)])
        elif isinstance(node, ast.Attribute) and isinstance(node.ctx, ast.Store):
            attributes.append(node.attr)
    return methods, attributes


def name_faults(tree):
    bound = list(bound_names(tree))
    methods, attributes = member_names(tree)
    for name in sorted(set(bound + methods + attributes)):
        if name.startswith("_") and name not in SPECIAL_METHODS + ["__slots__", "__all__", "__version__"]:
            yield f"L12: {name}"
        if name in BARRED_NAMES or re.match("(f|tb|co|gi|cr|ag)_", name):
            yield f"L17: {name}"
    yield from [f"L17: {name}" for name in bound + methods if name in BARRED_BINDINGS and name != "next"]
    yield from [f"L15: {name} is a builtin" for name in bound if hasattr(builtins, name)]
    yield from [f"L8: {name} is a builtin" for name in methods if name in BUILTINS and name != "next"]
    yield from [f"L26: the attribute {name}" for name in attributes if name in BARRED_ATTRIBUTES]
    local = set(bound)
    for node in ast.walk(tree):
        if isinstance(node, ast.Name) and node.id not in local and node.id not in BUILTINS:
            yield f"L8: {node.id} in line {node.lineno}"


def attribute_faults(tree, members):
    """What is wrong with the attributes that are read, if `members` are those of all classes of the package."""
    for node in ast.walk(tree):
        if isinstance(node, ast.Attribute) and isinstance(node.ctx, ast.Load):
            if node.attr not in members and node.attr not in METHODS + ["setter", "__init__"]:
                yield f"L25: {node.attr} in line {node.lineno}"


def class_faults(tree):
    for kind in ast.walk(tree):
        if isinstance(kind, ast.ClassDef):
            if kind.decorator_list or kind not in tree.body:
                yield f"L5: class {kind.name}"
            names = [part.name for part in kind.body if isinstance(part, ast.FunctionDef)
                     and not [mark for mark in part.decorator_list if isinstance(mark, ast.Attribute)]]
            yield from [f"L18: {name} is defined twice" for name in sorted(set(names)) if names.count(name) > 1]
            if "__getitem__" in names and "__iter__" not in names:
                yield f"L5: {kind.name} has no __iter__"
            yield from [f"L5: {name}" for name in names if name.startswith("__") and name not in SPECIAL_METHODS]


def decorator_faults(tree):
    for node in ast.walk(tree):
        for mark in getattr(node, "decorator_list", []):
            setter = isinstance(mark, ast.Attribute) and mark.attr == "setter"
            if not setter and not (isinstance(mark, ast.Name)
                                   and mark.id in ("property", "staticmethod", "classmethod")):
                yield f"L4: the decorator of line {node.lineno}"


def function_faults(tree):
    for node in ast.walk(tree):
        if isinstance(node, ast.FunctionDef):
            first = min([node.lineno] + [mark.lineno for mark in node.decorator_list])
            if node.end_lineno - first + 1 > MOST_FUNCTION_LINES:
                yield f"L10: {node.name} has too many lines"
        if isinstance(node, FUNCTIONS) and node.args.posonlyargs:
            yield f"L4: line {node.lineno}"


def handler_faults(node):
    if node.type is None:
        yield f"L6: line {node.lineno}"
        return
    caught = node.type.elts if isinstance(node.type, ast.Tuple) else [node.type]
    for name in caught:
        if not isinstance(name, ast.Name) or name.id in UNCAUGHT:
            yield f"L19: line {node.lineno}"


def is_singleton(node):
    return isinstance(node, ast.Constant) and (node.value is None or isinstance(node.value, bool))


def node_faults(tree):
    for node in ast.walk(tree):
        if isinstance(node, FORBIDDEN_NODES):
            yield f"L6 or L7: {type(node).__name__}"
        elif isinstance(node, ast.Constant) and isinstance(node.value, (float, complex)):
            yield f"L7: line {node.lineno}"
        elif isinstance(node, ast.ExceptHandler):
            yield from handler_faults(node)
        elif isinstance(node, ast.Raise) and node.exc and not isinstance(node.exc, ast.Call):
            yield f"L19: line {node.lineno}"
        elif isinstance(node, ast.Compare):
            sides = [node.left, *node.comparators]
            for at, sign in enumerate(node.ops):
                if isinstance(sign, (ast.Is, ast.IsNot)) and not is_singleton(sides[at + 1]):
                    yield f"L20: line {node.lineno}"
        elif isinstance(node, ast.BinOp) and isinstance(node.op, ast.Pow):
            if not isinstance(node.right, ast.Constant) or node.right.value > 64:
                yield f"L27: line {node.lineno}"


def called_name(node):
    """The name of the function that is called here, or None."""
    return node.func.id if isinstance(node, ast.Call) and isinstance(node.func, ast.Name) else None


def call_faults(tree):
    """What is wrong with the calls, where classes of the package have operators and compare."""
    for node in ast.walk(tree):
        if not isinstance(node, ast.Call):
            continue
        name, parts = called_name(node), node.args + [keyword.value for keyword in node.keywords]
        if name in TAKES_A_LIST and [part for part in parts if isinstance(part, ast.GeneratorExp)]:
            yield f"L5: a generator expression in line {node.lineno}"
        if name == "reversed" and parts and not isinstance(parts[0], (ast.List, ast.Tuple)):
            if called_name(parts[0]) not in ("list", "tuple", "sorted", "range"):
                yield f"L5: what is reversed in line {node.lineno}"
        stars = [part.value for part in parts if isinstance(part, ast.Starred)]
        if [part for part in stars if not isinstance(part, (ast.Name, ast.Attribute, ast.List, ast.Tuple))]:
            yield f"L7: what stands behind a star in line {node.lineno}"


def is_simple(node):
    """True for what may be assigned in a `finally`."""
    if isinstance(node, ast.Attribute):
        return is_simple(node.value)
    if isinstance(node, (ast.List, ast.Tuple)):
        return all(is_simple(part) for part in node.elts)
    return isinstance(node, (ast.Name, ast.Constant))


def finally_faults(tree):
    """What is wrong with the blocks behind `finally`; tests and sums in them are told too, though some are allowed."""
    for node in ast.walk(tree):
        for part in node.finalbody if isinstance(node, ast.Try) else []:
            if not isinstance(part, ast.Pass) and not (
                    isinstance(part, ast.Assign) and len(part.targets) == 1 and is_simple(part.value)
                    and is_simple(part.targets[0])):
                yield f"L6: line {part.lineno} behind finally"


def super_faults(tree):
    """What is wrong with `super()`, and with calls of what a call gave."""
    told = [node.func.value for node in ast.walk(tree) if isinstance(node, ast.Call)
            and isinstance(node.func, ast.Attribute)
            and (node.func.attr == "__init__" or not node.func.attr.startswith("__"))]
    for node in ast.walk(tree):
        if called_name(node) == "super" and (node not in told or node.args or node.keywords):
            yield f"L5: super in line {node.lineno}"
        elif isinstance(node, ast.Call) and isinstance(node.func, ast.Call):
            yield f"L5: a call of what a call gave in line {node.lineno}"


def class_value_faults(tree):
    """What is wrong with the statements in classes that are no methods."""
    for kind in ast.walk(tree):
        for part in kind.body if isinstance(kind, ast.ClassDef) else []:
            if isinstance(part, ast.Assign):
                if len(part.targets) != 1 or not isinstance(part.targets[0], ast.Name) or not is_plain(part.value):
                    yield f"L5: the class value of line {part.lineno}"
            elif not isinstance(part, ast.FunctionDef) and not is_docstring(part):
                yield f"L5: line {part.lineno} in a class"


def is_plain(node):
    if isinstance(node, ast.Tuple):
        return all(is_plain(part) for part in node.elts)
    return isinstance(node, ast.Constant)


def iteration_faults(tree):
    """What is wrong with what is iterated over, and with what only may be iterated over at once."""
    heads = []
    for node in ast.walk(tree):
        if isinstance(node, (ast.For, ast.comprehension)):
            heads.append(node.iter)
            if called_name(node.iter) == "set" or isinstance(node.iter, (ast.Set, ast.SetComp)):
                yield f"L24: a set is iterated over in line {node.iter.lineno}"
        elif called_name(node) in TAKES_ITERATION or isinstance(node, ast.Call) and isinstance(node.func, ast.Attribute):
            heads.extend(node.args)
    for node in ast.walk(tree):
        if called_name(node) in ("zip", "enumerate", "reversed", "range") and node not in heads:
            yield f"L23: {called_name(node)} in line {node.lineno}"


def asks_only(node):
    """True if this method may change nothing: an operator, a property, or one that shows or compares."""
    if [mark for mark in node.decorator_list if isinstance(mark, ast.Name) and mark.id == "property"]:
        return True
    return node.name in SPECIAL_METHODS and node.name not in MAY_CHANGE


def called_names(node):
    """The names of the functions, methods and classes that are called in a function."""
    for part in ast.walk(node):
        if isinstance(part, ast.Call):
            yield part.func.attr if isinstance(part.func, ast.Attribute) else called_name(part)


def askers(trees):
    """The functions and methods that may change nothing, those that others of them call included."""
    named, classes, waiting, found = {}, {}, [], []
    for tree in trees:
        for node in ast.walk(tree):
            if isinstance(node, ast.FunctionDef):
                named.setdefault(node.name, []).append(node)
                waiting.extend([node] if asks_only(node) else [])
            elif isinstance(node, ast.ClassDef):
                classes[node.name] = [part for part in node.body if getattr(part, "name", "") == "__init__"]
    while waiting:
        node = waiting.pop()
        if node not in found:
            found.append(node)
            for name in called_names(node):
                waiting.extend(named.get(name, []) + classes.get(name, []))
    return found


def own_lists(function):
    """The local variables that are assigned nothing but lists that the function creates itself."""
    made, other = [], [part.arg for part in function.args.args]
    for node in ast.walk(function):
        if isinstance(node, ast.Assign):
            new = isinstance(node.value, (ast.List, ast.ListComp)) or called_name(node.value) in ("list", "sorted")
            for target in node.targets:
                names = [part.id for part in ast.walk(target) if isinstance(part, ast.Name)
                         and isinstance(part.ctx, ast.Store)]
                (made if new and isinstance(target, ast.Name) else other).extend(names)
    return [name for name in made if name not in other]


def change_faults(function):
    """What is wrong with a function that may change nothing but lists of its own."""
    own = own_lists(function)
    local = [part.arg for part in function.args.args] + own
    for node in ast.walk(function):
        line = getattr(node, "lineno", 0)
        if isinstance(node, ast.Attribute) and not isinstance(node.ctx, ast.Load) and function.name != "__init__":
            yield f"L5: {function.name} assigns an attribute in line {line}"
        elif isinstance(node, ast.Subscript) and not isinstance(node.ctx, ast.Load):
            if not isinstance(node.value, ast.Name) or node.value.id not in own:
                yield f"L5: {function.name} assigns an item in line {line}"
        elif isinstance(node, ast.AugAssign) and isinstance(node.op, ast.Add):
            if not isinstance(node.value, ast.Constant):
                yield f"L5: {function.name} adds in place in line {line}"
        elif isinstance(node, ast.Call) and isinstance(node.func, ast.Attribute) and node.func.attr in CHANGES:
            if not isinstance(node.func.value, ast.Name) or node.func.value.id not in own:
                yield f"L5: {function.name} changes something in line {line}"
        elif called_name(node) in local:
            yield f"L5: {function.name} calls what it is passed in line {line}"


def has_cycle(imports):
    """True if modules import each other, if `imports` maps each module to those that it imports."""
    rest = dict(imports)
    while rest:
        free = [name for name in rest if not [other for other in rest[name] if other in rest]]
        if not free:
            return True
        for name in free:
            del rest[name]
    return False


def faults(texts):
    """What is wrong with the package, if `texts` maps the name of each module to its text."""
    trees = {name: parsed(text) for name, text in texts.items()}
    defined = {name: defined_names(tree) for name, tree in trees.items()}
    methods = [name for tree in trees.values() for name in member_names(tree)[0]]
    attributes = [name for tree in trees.values() for name in member_names(tree)[1]]
    found = [f"L18: {name} is a method and an attribute" for name in sorted(set(methods) & set(attributes))
             if not is_property_name(name, trees.values())]
    if has_cycle({name: imported_modules(tree) for name, tree in trees.items()}):
        found.append("L16: modules import each other")
    found.extend([fault for function in askers(trees.values()) for fault in change_faults(function)])
    for name, tree in trees.items():
        in_file = [*text_faults(texts[name]), *token_faults(texts[name]), *warning_faults(texts[name]),
                   *module_faults(tree), *import_faults(tree, defined), *name_faults(tree),
                   *attribute_faults(tree, methods + attributes), *class_faults(tree), *decorator_faults(tree),
                   *function_faults(tree), *node_faults(tree), *call_faults(tree), *iteration_faults(tree),
                   *finally_faults(tree), *super_faults(tree), *class_value_faults(tree)]
        found.extend([f"{name}: {fault}" for fault in in_file])
    return found


def is_property_name(name, trees):
    """True if a setter makes the property of this name one that is assigned."""
    return any(isinstance(node, ast.FunctionDef) and node.name == name
               and [mark for mark in node.decorator_list if isinstance(mark, ast.Attribute)]
               for tree in trees for node in ast.walk(tree))
