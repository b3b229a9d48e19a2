"""A small check of the rules of LANGUAGE.md that are easily broken.

It is stricter than the rules in places where the package does without something (annotations, kept
ranges, handlers of ValueError ..), and says nothing of many others. `broken_rules` takes the texts of
all files of the package, by their names, and gives lines such as "halls.py:12: L10 a long line".
"""

import ast
import builtins
import io
import re
import tokenize
import warnings

BUILTINS = set(dir(builtins))
USABLE = set(
    "len range enumerate zip min max sum abs sorted reversed int str bool list tuple dict set isinstance ord repr any "
    "all divmod iter next Exception ValueError TypeError KeyError IndexError LookupError ZeroDivisionError "
    "ArithmeticError OverflowError RuntimeError NotImplementedError NotImplemented property staticmethod classmethod "
    "super".split())
METHODS = set(
    "append clear copy count endswith extend find get index insert isalnum isalpha isdigit islower isspace isupper "
    "items join keys ljust lower lstrip partition pop remove replace reverse rfind rjust rpartition rsplit rstrip "
    "setdefault split splitlines startswith strip update upper values zfill bit_length add discard".split())
DUNDERS = set(
    "init eq repr str len enter exit call iter lt le gt ge ne add sub mul floordiv mod pow and or xor lshift rshift "
    "radd rsub rmul iadd isub imul iand ior ixor neg pos invert abs bool contains getitem setitem".split())
NOT_OPERATORS = set("init eq repr str len enter exit call iter".split())
BARRED = set(
    "register mro elements open input law version_info with_traceback add_note attrgetter breakpoint builtins compile "
    "copyright credits delattr dir eval exec exit gc getattr globals hasattr help id importlib license locals "
    "methodcaller os quit setattr super type vars sys".split())
BARRED_ATTRIBUTES = set("format format_map mro register elements open input law version_info with_traceback add_note "
                        "args encode decode hex fromhex to_bytes from_bytes sort".split())
BARRED_WORDS = set(
    "type typing typing_extensions enum Enum IntEnum StrEnum Flag IntFlag Generic Protocol ABC ABCMeta namedtuple "
    "NamedTuple TypedDict TYPE_CHECKING abstractmethod".split())
AT_ONCE = {"zip", "enumerate", "reversed", "range", "items", "keys", "values", "map"}
TAKES_AT_ONCE = {"list", "tuple", "dict", "sorted", "sum", "any", "all", "enumerate", "zip", "min", "max"}
KEYWORDS = {"sorted": {"key", "reverse"}, "min": {"key", "default"}, "max": {"key", "default"}, "sum": {"start"},
            "enumerate": {"start"}, "zip": {"strict"}}
CATCHABLE = {"KeyError", "ZeroDivisionError"}
LIBRARY = {"heapq": {"heappush", "heappop", "heapify", "heapreplace", "heappushpop"},
           "math": {"gcd", "lcm", "isqrt", "comb", "perm", "factorial"}}
STATEMENTS = (
    ast.Assign, ast.AugAssign, ast.If, ast.While, ast.For, ast.Return, ast.Break, ast.Continue, ast.Pass, ast.Raise,
    ast.Assert, ast.Delete, ast.Nonlocal, ast.Match, ast.With, ast.Try, ast.Expr, ast.FunctionDef)
COMPREHENSIONS = (ast.ListComp, ast.SetComp, ast.DictComp, ast.GeneratorExp)


class Package:
    """The parsed files of a package, and what they define."""

    def __init__(self, files, name="metonce"):
        self.name = name
        self.files = files
        self.trees = {at: ast.parse(text) for at, text in files.items()}
        nodes = [node for tree in self.trees.values() for node in ast.walk(tree)]
        classes = [node for node in nodes if isinstance(node, ast.ClassDef)]
        self.methods = {part.name for kind in classes for part in kind.body if isinstance(part, ast.FunctionDef)}
        self.errors = {kind.name for kind in classes if any(
            getattr(base, "id", "").endswith("Error") for base in kind.bases)}
        self.compares = bool(self.methods & {"__eq__", "__len__"})
        self.has_operators = any(name[2:-2] in DUNDERS - NOT_OPERATORS for name in self.methods)
        self.told = []

    def tell(self, at, node, rule):
        line = node if isinstance(node, int) else getattr(node, "lineno", 1)
        self.told.append(f"{at}:{line}: {rule}")


def broken_rules(files):
    """The lines that tell which rules the files break, () if none."""
    package = Package(files)
    for at, text in files.items():
        check_text(package, at, text)
        check_words(package, at, text)
        check_module(package, at, package.trees[at])
        for node in ast.walk(package.trees[at]):
            for child in ast.iter_child_nodes(node):
                child.above = node
        for node in ast.walk(package.trees[at]):
            for check in CHECKS:
                check(package, at, node)
    check_circles(package)
    return tuple(sorted(set(package.told)))


def check_text(package, at, text):
    if not re.fullmatch(r"[a-z_][a-z0-9_]*\.py", at):
        package.tell(at, 1, "L14 a file's name")
    lines = text.split("\n")
    if len(lines) > 400 or (len(lines) == 400 and lines[-1]):
        package.tell(at, 400, "L10 a long file")
    for number, line in enumerate(lines, 1):
        if len(line) > 120:
            package.tell(at, number, "L10 a long line")
        if not all(" " <= sign <= "~" for sign in line):
            package.tell(at, number, "L14 a character")
        if re.search(r"\b_wall\b|_WallAttr", line):
            package.tell(at, number, "L12 a barred word")
    with warnings.catch_warnings(record=True) as caught:
        warnings.simplefilter("always")
        compile(text, at, "exec")
    for warning in caught:
        package.tell(at, warning.lineno, "L27 a warning of Python")


def check_words(package, at, text):
    docstrings = {(node.body[0].value.lineno, node.body[0].value.col_offset) for node in ast.walk(package.trees[at])
                  if hasattr(node, "body") and isinstance(node.body, list) and ast_docstring(node)}
    for token in tokenize.generate_tokens(io.StringIO(text).readline):
        if token.type == tokenize.COMMENT or token.start in docstrings:
            continue
        words = set(re.findall(r"\w+", token.string))
        barred = BARRED_WORDS - ({"type"} if token.type == tokenize.STRING else set())
        if words & barred or re.search("dataclass|overload|contextmanager", token.string):
            package.tell(at, token.start[0], "L17 a barred word")
        if token.type == tokenize.STRING and re.search(r"\\[^n\\t'\"\n]", token.string):
            package.tell(at, token.start[0], "L27 an escape")


def ast_docstring(node):
    first = node.body[0] if node.body else None
    return isinstance(first, ast.Expr) and isinstance(first.value, ast.Constant) and isinstance(first.value.value, str)


def is_plain(node):
    if isinstance(node, (ast.List, ast.Tuple)):
        return all(is_plain(part) for part in node.elts)
    if isinstance(node, ast.Dict):
        return all(is_plain(part) for part in [*node.keys, *node.values])
    if isinstance(node, ast.UnaryOp):
        return isinstance(node.op, ast.USub) and is_plain(node.operand)
    return isinstance(node, (ast.Constant, ast.Name))


def check_module(package, at, tree):
    bound = []
    for place, node in enumerate(tree.body):
        if isinstance(node, ast.ImportFrom):
            bound += [name.asname or name.name for name in node.names]
            check_import(package, at, node)
        elif isinstance(node, (ast.FunctionDef, ast.ClassDef)):
            bound.append(node.name)
        elif isinstance(node, ast.Assign):
            names = [getattr(target, "id", "") for target in node.targets]
            bound += names
            if len(names) != 1 or not names[0] or not is_plain(node.value):
                package.tell(at, node, "L3 no plain value at module level")
            held = [part for part in ast.walk(node.value) if isinstance(part, (ast.List, ast.Dict))]
            if [part for part in held if part is not node.value]:
                package.tell(at, node, "L15 a list or dict within another value")
        elif isinstance(node, ast.Import):
            package.tell(at, node, "L2 an import's form")
        elif place or not ast_docstring(tree):
            package.tell(at, node, "L3 a statement at module level")
        if isinstance(node, ast.ImportFrom) and not all(
                isinstance(other, ast.ImportFrom) or ast_docstring(tree) and other is tree.body[0]
                for other in tree.body[:place]):
            package.tell(at, node, "L2 an import that does not stand at the top")
    for name in {name for name in bound if bound.count(name) > 1}:
        package.tell(at, 1, f"L15 {name} is bound twice")
    check_shadows(package, at, tree)


def check_import(package, at, node):
    names = [name.name for name in node.names]
    if node.level or [name for name in node.names if name.asname]:
        package.tell(at, node, "L2 an import's form")
    if node.module in LIBRARY:
        if not set(names) <= LIBRARY[node.module]:
            package.tell(at, node, "L2 the library")
        return
    tree = package.trees.get((node.module or "").removeprefix(package.name + ".") + ".py", ast.Module([], []))
    defined = {part.name for part in tree.body if isinstance(part, (ast.FunctionDef, ast.ClassDef))}
    defined |= {part.targets[0].id for part in tree.body if isinstance(part, ast.Assign)}
    if not set(names) <= defined:
        package.tell(at, node, "L16 an import not from the file that defines the name")


def check_circles(package):
    reached = {}
    for at, tree in package.trees.items():
        modules = [node.module for node in tree.body if isinstance(node, ast.ImportFrom)]
        reached[at] = {(name or "").removeprefix(package.name + ".") + ".py" for name in modules}
    for _ in reached:
        for at in reached:
            reached[at] |= {far for near in reached[at] for far in reached.get(near, ())}
    for at in reached:
        if at in reached[at]:
            package.tell(at, 1, "L16 a circle of imports")


def check_shadows(package, at, tree):
    taken = {name.asname or name.name for node in tree.body if isinstance(node, ast.ImportFrom) for name in node.names}
    taken |= {node.name for node in tree.body if isinstance(node, ast.ClassDef)}
    for node in ast.walk(tree):
        name = getattr(node, "arg", None) if isinstance(node, ast.arg) else getattr(node, "id", None)
        if name in taken and (isinstance(node, ast.arg) or isinstance(node.ctx, ast.Store)):
            package.tell(at, node, "L15 a name of a class or an import")


def check_name(package, at, node):
    name = None
    if isinstance(node, (ast.FunctionDef, ast.ClassDef)):
        name = node.name
    elif isinstance(node, ast.arg):
        name = node.arg
    elif isinstance(node, ast.Name):
        name = node.id
        if isinstance(node.ctx, ast.Load) and name in BUILTINS and name not in USABLE:
            package.tell(at, node, "L8 a builtin")
        if isinstance(node.ctx, ast.Load):
            return
    elif isinstance(node, ast.Attribute):
        name = node.attr
        if name.startswith("__") and name not in ("__init__", "__class__", "__name__") or name in BARRED_ATTRIBUTES:
            package.tell(at, node, "L8, L17, L25, L26 an attribute")
        return
    elif isinstance(node, ast.ExceptHandler):
        name = node.name
    if name is None:
        return
    is_method = isinstance(node, ast.FunctionDef) and isinstance(node.above, ast.ClassDef)
    if name.startswith("__") and not (is_method and name[2:-2] in DUNDERS and name.endswith("__")):
        package.tell(at, node, "L8 two underscores")
    if name in BARRED or (name in BUILTINS and not is_method):
        package.tell(at, node, "L15, L17 the name of a builtin, or a barred one")


def check_function(package, at, node):
    if not isinstance(node, (ast.FunctionDef, ast.Lambda)):
        return
    given = node.args
    for value in [*given.defaults, *given.kw_defaults]:
        if value is not None and not is_plain(value):
            package.tell(at, node, "L4 a default value")
    if isinstance(node, ast.Lambda):
        if not isinstance(node.above, ast.keyword) or node.above.arg != "key":
            package.tell(at, node, "L4 a lambda that is no key (stricter than the rule)")
        return
    if node.end_lineno - node.lineno + 1 > 40:
        package.tell(at, node, "L10 a long function")
    for mark in node.decorator_list:
        if getattr(mark, "id", getattr(mark, "attr", "")) not in ("property", "setter", "staticmethod", "classmethod"):
            package.tell(at, node, "L4 a decorator")
    if node.returns or [one for one in ast.walk(given) if isinstance(one, ast.arg) and one.annotation]:
        package.tell(at, node, "L21 an annotation (stricter than the rule)")
    if node.name == "__len__" and not (isinstance(node.body[-1], ast.Return)
                                       and getattr(getattr(node.body[-1].value, "func", None), "id", "") == "len"):
        package.tell(at, node, "L28 what __len__ returns")


def check_class(package, at, node):
    if not isinstance(node, ast.ClassDef):
        return
    if node.decorator_list or node.keywords or not isinstance(node.above, ast.Module):
        package.tell(at, node, "L5 a class")
    for place, part in enumerate(node.body):
        if not (isinstance(part, (ast.FunctionDef, ast.Assign)) or place == 0 and ast_docstring(node)):
            package.tell(at, part, "L5 what stands in a class")
    methods = {part.name for part in node.body if isinstance(part, ast.FunctionDef)}
    for part in ast.walk(node):
        if isinstance(part, ast.Attribute) and isinstance(part.ctx, ast.Store) and part.attr in methods:
            package.tell(at, part, "L18 a method and an attribute")


def check_statement(package, at, node):
    in_function = isinstance(node, ast.stmt) and isinstance(
        getattr(node, "above", None), (ast.FunctionDef, ast.If, ast.For, ast.While, ast.Try, ast.With, ast.match_case,
                                       ast.ExceptHandler))
    if in_function and not isinstance(node, STATEMENTS):
        package.tell(at, node, "L6 a statement")
    if isinstance(node, ast.ExceptHandler):
        parts = node.type.elts if isinstance(node.type, ast.Tuple) else [node.type]
        names = [getattr(part, "id", "") for part in parts]
        if not all(name in CATCHABLE | package.errors for name in names):
            package.tell(at, node, "L19 what is caught (stricter than the rule)")
    if isinstance(node, ast.Try) and node.finalbody:
        package.tell(at, node, "L6 a finally (stricter than the rule)")
    if isinstance(node, ast.Raise) and node.exc and not (
            isinstance(node.exc, ast.Call) and getattr(node.exc.func, "id", "") in package.errors | BUILTINS):
        package.tell(at, node, "L19 what is raised")


def check_try(package, at, node):
    """What may stand in a `try` for KeyError and ZeroDivisionError is kept to one short statement."""
    if not isinstance(node, ast.Try):
        return
    caught = [name.id for handler in node.handlers if handler.type for name in ast.walk(handler.type)
              if isinstance(name, ast.Name)]
    if set(caught) & CATCHABLE and (len(node.body) > 1 or not isinstance(node.body[0], (ast.Assign, ast.Return))):
        package.tell(at, node, "L19 what stands in a try (stricter than the rule)")


def check_exit(package, at, node):
    """What may stand in an `__exit__` is kept to attributes assigned, and to tests for None."""
    if not isinstance(node, ast.FunctionDef) or node.name != "__exit__":
        return
    unread = {arg.arg for arg in node.args.args[2:]}
    for part in [inner for row in node.body for inner in ast.walk(row)]:
        if isinstance(part, ast.stmt) and not isinstance(part, (ast.If, ast.Assign)):
            package.tell(at, part, "L6 what stands in an __exit__ (stricter than the rule)")
        elif isinstance(part, ast.Assign) and not all(isinstance(to, ast.Attribute) for to in part.targets):
            package.tell(at, part, "L6 what an __exit__ assigns")
        elif isinstance(part, (ast.Call, ast.BinOp, ast.Subscript)):
            package.tell(at, part, "L6 what an __exit__ does")
        elif isinstance(part, ast.Compare) and not all(isinstance(sign, (ast.Is, ast.IsNot)) for sign in part.ops):
            package.tell(at, part, "L6 what an __exit__ compares")
        elif isinstance(part, ast.Name) and part.id in unread:
            package.tell(at, part, "L6 what an __exit__ reads")


def check_expression(package, at, node):
    if isinstance(node, (ast.Set, ast.SetComp)) or isinstance(node, ast.Call) and called(node) == "set":
        check_set(package, at, node)
    if isinstance(node, ast.Constant) and isinstance(node.value, (float, complex)):
        package.tell(at, node, "L7 a float")
    if isinstance(node, ast.Constant) and isinstance(node.value, str):
        if "%" in node.value or node.value.endswith(("._", ".__")):
            package.tell(at, node, "L27 a string")
    if isinstance(node, ast.BinOp) and (isinstance(node.op, (ast.Div, ast.MatMult)) or (
            isinstance(node.op, ast.Pow) and not isinstance(node.right, ast.Constant))):
        package.tell(at, node, "L7, L27 an operator")
    if isinstance(node, ast.Compare):
        for sign, side in zip(node.ops, node.comparators):
            if isinstance(sign, (ast.Is, ast.IsNot)) and not (
                    isinstance(side, ast.Constant) and side.value in (None, True, False)):
                package.tell(at, node, "L20 is")
    if isinstance(node, (ast.Await, ast.AnnAssign)):
        package.tell(at, node, "L6, L21")
    if isinstance(node, COMPREHENSIONS) and not inside_function(node):
        package.tell(at, node, "L7 a comprehension outside of functions")
    if isinstance(node, ast.GeneratorExp):
        allowed = {"list", "tuple", "dict", "join"} | (set() if package.compares else TAKES_AT_ONCE)
        if not isinstance(node.above, ast.Call) or called(node.above) not in allowed:
            package.tell(at, node, "L7 a generator expression")


def called(node):
    return getattr(node.func, "id", getattr(node.func, "attr", ""))


def inside_function(node):
    while not isinstance(node, ast.Module):
        if isinstance(node, (ast.FunctionDef, ast.Lambda)):
            return True
        node = node.above
    return False


def check_set(package, at, node):
    above = node.above
    kept = isinstance(above, ast.Assign) and isinstance(above.targets[0], ast.Name) and inside_function(node)
    on_the_spot = isinstance(above, ast.Call) and node in above.args and called(above) in ("len", "sorted")
    if not (kept or on_the_spot or isinstance(above, ast.Compare)):
        package.tell(at, node, "L24 a set")


def check_call(package, at, node):
    if not isinstance(node, ast.Call):
        return
    name = called(node)
    if isinstance(node.func, ast.Attribute):
        if name not in METHODS | package.methods:
            package.tell(at, node, "L25 a method")
        if name == "join" and not isinstance(node.func.value, ast.Constant):
            package.tell(at, node, "L23 join of what is no literal (stricter than the rule)")
    elif isinstance(node.func, ast.Name) and name in BUILTINS:
        if not {word.arg for word in node.keywords} <= KEYWORDS.get(name, set()):
            package.tell(at, node, "L22 a keyword")
        if [part for part in node.args if isinstance(part, ast.Starred)] and name not in ("min", "max", "zip"):
            package.tell(at, node, "L7 a star")
    elif not isinstance(node.func, (ast.Name, ast.Call, ast.Subscript)):
        package.tell(at, node, "L7 what is called")
    if name in AT_ONCE:
        above = node.above
        looped = isinstance(above, (ast.For, ast.comprehension)) and above.iter is node
        taken = isinstance(above, ast.Call) and called(above) in TAKES_AT_ONCE and above.args[:1] == [node]
        counted = isinstance(above, (ast.Call, ast.Compare)) and name == "range"
        if not (looped or taken or counted):
            package.tell(at, node, "L23 what is iterated at once")


CHECKS = (check_name, check_function, check_class, check_statement, check_try, check_exit, check_expression, check_call)
