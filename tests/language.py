"""A look at the package's files by the rules of the language that they keep to.

It sees what can be seen in a file's tree of statements; a rule that it doesn't speak of is
still to be kept.
"""

import ast
import builtins
import re

OWN_NAMES = set(
    "len range enumerate zip min max sum abs sorted reversed int str bool list tuple dict set frozenset "
    "isinstance ord repr any all divmod Exception ValueError TypeError KeyError IndexError LookupError "
    "ZeroDivisionError ArithmeticError OverflowError RuntimeError NotImplementedError AttributeError "
    "StopIteration".split()
)
METHODS = set(
    "append clear copy count endswith extend find get index insert isalnum isalpha isdigit islower isspace "
    "isupper items join keys ljust lower lstrip partition pop remove replace reverse rfind rjust rpartition "
    "rsplit rstrip setdefault split splitlines startswith strip update upper values zfill bit_length".split()
)
NO_WORDS = set(
    "type typing typing_extensions enum Enum IntEnum StrEnum Flag IntFlag Generic Protocol ABC ABCMeta "
    "namedtuple NamedTuple TypedDict TYPE_CHECKING abstractmethod".split()
)
NO_NAMES = set(
    "register mro elements open input version_info with_traceback add_note attrgetter breakpoint builtins "
    "compile copyright credits delattr dir eval exec exit gc getattr globals hasattr help id importlib license "
    "locals methodcaller os quit setattr super type vars sys format format_map chr print".split()
)
DOUBLE = {"__init__", "__eq__", "__repr__", "__str__", "__len__"}
STATEMENTS = (
    ast.Assign, ast.AugAssign, ast.If, ast.While, ast.For, ast.Return, ast.Break, ast.Continue, ast.Pass,
    ast.Raise, ast.Try, ast.Expr, ast.FunctionDef, ast.ClassDef, ast.ImportFrom,
)
EXPRESSIONS = (
    ast.Constant, ast.List, ast.Tuple, ast.Dict, ast.Set, ast.BinOp, ast.UnaryOp, ast.Compare, ast.BoolOp,
    ast.IfExp, ast.Call, ast.Attribute, ast.Subscript, ast.Slice, ast.ListComp, ast.JoinedStr,
    ast.FormattedValue, ast.Name, ast.Lambda,
)
WALKED = {"zip", "enumerate", "reversed", "range"}
VIEWS = {"items", "keys", "values"}


def text_faults(text):
    if not all(sign == "\n" or " " <= sign <= "~" for sign in text):
        yield "L14 sign"
    if set(re.findall(r"\w+", text)) & NO_WORDS or re.search("dataclass|overload|contextmanager", text):
        yield "L17 word"
    rows = text.split("\n")
    if len(rows) > 401 or max(map(len, rows)) > 120:
        yield "L10 size of file or line"


def statement_faults(node):
    if not isinstance(node, STATEMENTS):
        yield "L6 statement"
    if isinstance(node, ast.Assign) and len(node.targets) != 1:
        yield "L6 targets"
    if isinstance(node, ast.Expr) and not isinstance(node.value, ast.Call):
        yield "L6 expression by itself"
    if isinstance(node, (ast.For, ast.While)) and node.orelse:
        yield "L6 else behind a loop"
    if isinstance(node, ast.Try) and (node.finalbody or any(not isinstance(h.type, ast.Name) for h in node.handlers)):
        yield "L6 try"
    if isinstance(node, ast.Try) and {h.type.id for h in node.handlers} & {"Exception", "TypeError"}:
        yield "L19 taken error"
    if isinstance(node, ast.FunctionDef):
        yield from function_faults(node)


def function_faults(node):
    arguments = node.args
    if arguments.vararg or arguments.kwarg or arguments.kwonlyargs or arguments.posonlyargs or node.decorator_list:
        yield "L4 parameters"
    if node.returns or any(argument.annotation for argument in arguments.args):
        yield "L21 annotation"
    if node.end_lineno - node.lineno >= 40:
        yield "L10 size of function"


def expression_faults(node):
    if not isinstance(node, EXPRESSIONS):
        yield "L7 expression"
    if isinstance(node, ast.Constant):
        yield from constant_faults(node)
    if isinstance(node, ast.BinOp) and isinstance(node.op, (ast.Div, ast.MatMult)):
        yield "L7 operator"
    if isinstance(node, ast.BinOp) and isinstance(node.op, ast.Pow):
        if not isinstance(node.right, ast.Constant) or not 0 <= node.right.value <= 64:
            yield "L27 power"
    if isinstance(node, ast.ListComp) and (len(node.generators) > 1 or len(node.generators[0].ifs) > 1):
        yield "L7 comprehension"
    if isinstance(node, ast.FormattedValue) and (node.format_spec or not isinstance(node.value, ast.Name)):
        yield "L7 f-string"
    if isinstance(node, ast.Compare) and any(isinstance(op, (ast.Is, ast.IsNot)) for op in node.ops):
        if not any(isinstance(side, ast.Constant) for side in [node.left] + node.comparators):
            yield "L20 is"
    if isinstance(node, ast.Call) and isinstance(node.func, ast.Name) and node.func.id == "isinstance":
        if len(node.args) != 2:
            yield "L22 isinstance"


def constant_faults(node):
    if node.value is not None and not isinstance(node.value, (int, str)):
        yield "L7 constant"
    if isinstance(node.value, str) and "%" in node.value:
        yield "L27 sign in a text"


def name_faults(tree):
    taken = file_names(tree)
    for node in ast.walk(tree):
        for name in names_of(node):
            if not re.fullmatch(r"[A-Za-z][A-Za-z0-9_]*", name) and name not in DOUBLE:
                yield node, "L12 name"
            if name in NO_NAMES:
                yield node, "L17 name"
        for name in bound_names(node):
            if hasattr(builtins, name) or name in taken:
                yield node, "L15 local " + name
        if isinstance(node, ast.Name) and hasattr(builtins, node.id) and node.id not in OWN_NAMES:
            yield node, "L8 name"


def names_of(node):
    if isinstance(node, ast.Name):
        return [node.id]
    if isinstance(node, ast.Attribute):
        return [node.attr]
    if isinstance(node, (ast.FunctionDef, ast.ClassDef)):
        return [node.name]
    return [node.arg] if isinstance(node, ast.arg) else []


def bound_names(node):
    if isinstance(node, ast.arg):
        return [node.arg]
    return [node.id] if isinstance(node, ast.Name) and isinstance(node.ctx, ast.Store) else []


def file_names(tree):
    names = [node.name for node in tree.body if isinstance(node, ast.ClassDef)]
    for node in tree.body:
        if isinstance(node, ast.ImportFrom):
            names.extend(alias.name for alias in node.names)
    return set(names)


def top_faults(tree):
    body = tree.body
    if body and isinstance(body[0], ast.Expr) and isinstance(body[0].value, ast.Constant):
        body = body[1:]
    names = []
    for node in body:
        if isinstance(node, (ast.FunctionDef, ast.ClassDef)):
            names.append(node.name)
        elif isinstance(node, ast.Assign):
            names.extend(target.id for target in node.targets)
            if not is_plain(node.value):
                yield node, "L3 value"
        elif isinstance(node, ast.ImportFrom):
            names.extend(alias.name for alias in node.names)
            if node.level or not node.module.startswith("calm.") or any(alias.asname for alias in node.names):
                yield node, "L2 import"
        else:
            yield node, "L3 top of a file"
    if len(set(names)) < len(names):
        yield tree, "L15 name bound twice"


def is_plain(node):
    if isinstance(node, ast.UnaryOp):
        return is_plain(node.operand)
    if isinstance(node, ast.Dict):
        return all(map(is_plain, node.keys)) and not any(map(is_nest, node.values)) and all(map(is_plain, node.values))
    if isinstance(node, ast.List):
        return all(map(is_plain, node.elts)) and not any(map(is_nest, node.elts))
    if isinstance(node, ast.Tuple):
        return all(map(is_plain, node.elts))
    return isinstance(node, (ast.Constant, ast.Name))


def is_nest(node):
    return isinstance(node, (ast.List, ast.Dict))


def class_faults(tree):
    for node in ast.walk(tree):
        if isinstance(node, ast.ClassDef):
            if len(node.bases) > 1 or node.keywords or node.decorator_list:
                yield node, "L5 class"
            for part in node.body:
                if not isinstance(part, (ast.FunctionDef, ast.Pass)):
                    yield part, "L5 class body"


def call_faults(tree, methods):
    parents = {child: node for node in ast.walk(tree) for child in ast.iter_child_nodes(node)}
    for node in ast.walk(tree):
        if not isinstance(node, ast.Call):
            continue
        if isinstance(node.func, ast.Attribute) and node.func.attr not in METHODS | methods | DOUBLE:
            yield node, "L25 method " + node.func.attr
        if isinstance(node.func, ast.Name) and node.func.id in WALKED and not is_walked(node, parents[node]):
            yield node, "L23 walked at once"
        if isinstance(node.func, ast.Attribute) and node.func.attr in VIEWS and not is_walked(node, parents[node]):
            yield node, "L23 walked at once"
        if isinstance(node.func, ast.Name) and node.func.id == "set" and not is_asked(parents[node]):
            yield node, "L24 set"


def is_walked(node, parent):
    if isinstance(parent, (ast.For, ast.comprehension)):
        return parent.iter is node
    takers = {"list", "tuple", "dict", "sorted", "sum", "any", "all", "enumerate", "zip", "min", "max"}
    return isinstance(parent, ast.Call) and isinstance(parent.func, ast.Name) and parent.func.id in takers


def is_asked(parent):
    if isinstance(parent, ast.Compare):
        return True
    return isinstance(parent, ast.Call) and isinstance(parent.func, ast.Name) and parent.func.id in {"sorted", "len"}


def faults_of(text, methods=frozenset()):
    """The faults of one file, texts (line, rule), methods those of the package's own classes."""
    tree = ast.parse(text)
    faults = [(0, fault) for fault in text_faults(text)]
    first = tree.body[:1]
    for node in ast.walk(tree):
        found = []
        if isinstance(node, ast.stmt) and not (node in first and isinstance(node, ast.Expr)):
            found = statement_faults(node)
        elif isinstance(node, ast.expr):
            found = expression_faults(node)
        faults.extend((node.lineno, fault) for fault in found)
    for look in (name_faults(tree), top_faults(tree), class_faults(tree), call_faults(tree, set(methods))):
        faults.extend((getattr(node, "lineno", 0), fault) for node, fault in look)
    return faults


def methods_and_values(text):
    """The names of methods and of values that the file's classes give their objects."""
    methods, values = set(), set()
    for node in ast.walk(ast.parse(text)):
        if isinstance(node, ast.ClassDef):
            methods.update(part.name for part in node.body if isinstance(part, ast.FunctionDef))
        if isinstance(node, ast.Attribute) and isinstance(node.ctx, ast.Store):
            values.add(node.attr)
    return methods, values


def imports_of(text):
    return [node for node in ast.parse(text).body if isinstance(node, ast.ImportFrom)]


def defined_in(text):
    names = []
    for node in ast.parse(text).body:
        if isinstance(node, (ast.FunctionDef, ast.ClassDef)):
            names.append(node.name)
        if isinstance(node, ast.Assign):
            names.extend(target.id for target in node.targets)
    return names
