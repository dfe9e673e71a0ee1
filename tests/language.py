"""Reads the package's files and lists where they leave LANGUAGE.md.

Where a rule says "best none" or allows a form the program has no need of, the narrower reading is held:
no annotations, no methods with two underscores but __init__, no docstring but a file's, and ValueError,
LookupError and IndexError taken only round one statement. No __main__.py is looked for, as there is none.
"""

import ast
import builtins
import io
import re
import tokenize

PACKAGE = "keyfold"
ALLOWED_BUILTINS = set(
    "len range enumerate zip min max sum abs sorted reversed int str bool list tuple dict set frozenset isinstance ord"
    " repr any all divmod Exception ValueError TypeError KeyError IndexError LookupError ZeroDivisionError"
    " ArithmeticError OverflowError RuntimeError NotImplementedError AttributeError StopIteration".split()
)
PYTHON_ERRORS = {name for name in ALLOWED_BUILTINS if name[0].isupper()}
METHODS = set(
    "append clear copy count endswith extend find get index insert isalnum isalpha isdigit islower isspace isupper"
    " items join keys ljust lower lstrip partition pop remove replace reverse rfind rjust rpartition rsplit rstrip"
    " setdefault split splitlines startswith strip update upper values zfill bit_length".split()
)
CHANGING = set("append clear extend insert pop remove reverse setdefault update".split())
NEVER_NAMES = set("register mro elements open input version_info with_traceback add_note".split())
NOT_AS_NAMES = set(
    "attrgetter breakpoint builtins compile copyright credits delattr dir eval exec exit gc getattr globals hasattr"
    " help id importlib license locals methodcaller os quit setattr super type vars sys".split()
)
BANNED_WORDS = set(
    "type typing typing_extensions enum Enum IntEnum StrEnum Flag IntFlag Generic Protocol ABC ABCMeta namedtuple"
    " NamedTuple TypedDict TYPE_CHECKING abstractmethod".split()
)
BANNED_PARTS = ("dataclass", "overload", "contextmanager")
BANNED_FILES = set("test tests testing site conftest sitecustomize usercustomize".split())
PYTHON_NAMES = set(dir(builtins))
PYTHON_VALUES = (str, int, list, dict, set, bytes, tuple, frozenset)
PYTHON_ATTRIBUTES = {name for kind in PYTHON_VALUES for name in dir(kind)}
FREE_OWN_VALUES = set("count index title find get join lower upper split strip copy add".split())
KEYWORDS = {
    "sorted": {"key", "reverse"}, "min": {"key", "default"}, "max": {"key", "default"},
    "sum": {"start"}, "enumerate": {"start"}, "zip": {"strict"},
}
KEY_BUILTINS = {"len", "int", "str", "abs", "sum", "min", "max", "tuple"}
WALKED = {"zip", "enumerate", "reversed", "range"}
WALKED_METHODS = {"items", "keys", "values"}
WALKERS = {"list", "tuple", "dict", "sorted", "sum", "any", "all", "enumerate", "zip", "min", "max"}
STATEMENTS = (
    ast.FunctionDef, ast.ClassDef, ast.Assign, ast.AugAssign, ast.If, ast.While, ast.For, ast.Return, ast.Break,
    ast.Continue, ast.Pass, ast.Raise, ast.Try, ast.Expr, ast.ImportFrom,
)
EXPRESSIONS = (
    ast.Constant, ast.List, ast.Tuple, ast.Dict, ast.Set, ast.BinOp, ast.UnaryOp, ast.BoolOp, ast.Compare, ast.IfExp,
    ast.Call, ast.Attribute, ast.Subscript, ast.Slice, ast.ListComp, ast.JoinedStr, ast.FormattedValue, ast.Name,
    ast.Lambda,
)
SET_OPERATORS = (ast.Sub, ast.BitAnd, ast.BitOr, ast.BitXor)


def calls(node, names):
    return isinstance(node, ast.Call) and isinstance(node.func, ast.Name) and node.func.id in names


def calls_method(node, names):
    return isinstance(node, ast.Call) and isinstance(node.func, ast.Attribute) and node.func.attr in names


def is_plain(node, functions):
    """Whether a node is a plain value: L3, and the defaults of L4."""
    if isinstance(node, ast.Constant):
        return isinstance(node.value, (int, str)) or node.value is None
    if isinstance(node, ast.UnaryOp) and isinstance(node.op, ast.USub):
        return is_plain(node.operand, functions)
    if isinstance(node, (ast.List, ast.Tuple)):
        return all(is_plain(part, functions) for part in node.elts)
    if isinstance(node, ast.Dict):
        return all(key is not None and is_plain(key, functions) for key in node.keys) and all(
            is_plain(value, functions) for value in node.values
        )
    return isinstance(node, ast.Name) and node.id in functions


def is_written_text(node):
    return isinstance(node, ast.JoinedStr) or (isinstance(node, ast.Constant) and isinstance(node.value, str))


def bound_names(node):
    """The parameters and locals that one node binds."""
    if isinstance(node, (ast.FunctionDef, ast.Lambda)):
        return [argument.arg for argument in node.args.args]
    if isinstance(node, ast.Name) and isinstance(node.ctx, ast.Store):
        return [node.id]
    if isinstance(node, ast.ExceptHandler) and node.name:
        return [node.name]
    return []


class Package:
    """What the rules need to know of all files together."""

    def __init__(self, sources):
        self.trees = {}
        self.tops = {}
        self.methods = set()
        self.own_values = set()
        for name, text in sources.items():
            tree = ast.parse(text)
            self.trees[name] = tree
            self.tops[name] = self.names_at_top(tree)
            self.note_classes(tree)

    def names_at_top(self, tree):
        names = []
        for node in tree.body:
            if isinstance(node, (ast.FunctionDef, ast.ClassDef)):
                names.append(node.name)
            elif isinstance(node, ast.Assign):
                names += [target.id for target in node.targets if isinstance(target, ast.Name)]
        return names

    def note_classes(self, tree):
        for node in ast.walk(tree):
            if isinstance(node, ast.ClassDef):
                self.methods |= {part.name for part in node.body if isinstance(part, ast.FunctionDef)}
            if isinstance(node, ast.Attribute) and isinstance(node.ctx, ast.Store):
                self.own_values.add(node.attr)

    def draws_from(self, name):
        drawn = ["__init__.py"] if name != "__init__.py" else []
        for node in self.trees[name].body:
            if isinstance(node, ast.ImportFrom) and (node.module or "").startswith(PACKAGE + "."):
                drawn.append(node.module[len(PACKAGE) + 1:].replace(".", "/") + ".py")
        return [file for file in drawn if file in self.trees]

    def in_a_ring(self, name):
        seen, waiting = set(), self.draws_from(name)
        while waiting:
            file = waiting.pop()
            if file not in seen:
                seen.add(file)
                waiting += self.draws_from(file)
        return name in seen


class FileCheck:
    """The faults of one file, each as (rule, file, line)."""

    def __init__(self, name, text, package):
        self.name = name
        self.text = text
        self.package = package
        self.tree = package.trees[name]
        self.faults = []
        self.parents = {part: node for node in ast.walk(self.tree) for part in ast.iter_child_nodes(node)}
        self.functions = [node.name for node in self.tree.body if isinstance(node, ast.FunctionDef)]
        self.classes = {node.name for node in ast.walk(self.tree) if isinstance(node, ast.ClassDef)}
        self.imported = {
            alias.asname or alias.name
            for node in self.tree.body if isinstance(node, ast.ImportFrom) for alias in node.names
        }
        self.changeable = [
            target.id for node in self.tree.body if isinstance(node, ast.Assign)
            and isinstance(node.value, (ast.List, ast.Dict)) for target in node.targets if isinstance(target, ast.Name)
        ]

    def fault(self, rule, line):
        self.faults.append((rule, self.name, line))

    def require(self, holds, rule, node):
        if not holds:
            self.fault(rule, getattr(node, "lineno", 0))

    def run(self):
        self.check_file_name()
        self.check_text()
        self.check_tokens()
        self.check_top()
        self.check_imports()
        for node in ast.walk(self.tree):
            self.check_node(node)
        return self.faults

    def check_file_name(self):
        stem = self.name.rsplit("/", 1)[-1].removesuffix(".py")
        plain = stem in ("__init__", "__main__") or re.fullmatch("[a-z][a-z0-9_]*", stem)
        self.require(plain and self.name.endswith(".py"), "L1", None)
        taken = stem in BANNED_FILES or stem.startswith("test_") or stem in BANNED_WORDS or stem in PYTHON_NAMES
        self.require(not taken, "L14", None)

    def check_text(self):
        lines = self.text.split("\n")
        self.require(len(lines) <= 401, "L10", None)
        for number, line in enumerate(lines, start=1):
            if len(line) > 120 or "\t" in line:
                self.fault("L10", number)
            if any(not " " <= sign <= "~" for sign in line):
                self.fault("L14", number)
            words = set(re.findall("[A-Za-z0-9_]+", line))
            if words & BANNED_WORDS or any(part in line for part in BANNED_PARTS):
                self.fault("L17", number)

    def check_tokens(self):
        for token in tokenize.generate_tokens(io.StringIO(self.text).readline):
            if token.type == tokenize.NUMBER and len(token.string) > 900:
                self.fault("L27", token.start[0])
            if token.type == tokenize.STRING or tokenize.tok_name[token.type].startswith("FSTRING_M"):
                for escape in re.findall(r"\\(.)", token.string, re.DOTALL):
                    if escape not in "nt\\'\"":
                        self.fault("L27", token.start[0])
                if "%" in token.string:
                    self.fault("L27", token.start[0])

    def check_top(self):
        seen = set(self.imported)
        for place, node in enumerate(self.tree.body):
            docstring = place == 0 and isinstance(node, ast.Expr) and is_written_text(node.value)
            if isinstance(node, ast.Assign):
                self.require(is_plain(node.value, self.functions), "L3", node)
                nested = [part for part in ast.walk(node.value) if isinstance(part, (ast.List, ast.Dict))]
                self.require(nested in ([], [node.value]), "L15", node)
            else:
                known = (ast.ImportFrom, ast.FunctionDef, ast.ClassDef)
                self.require(docstring or isinstance(node, known), "L3", node)
        for name in self.package.tops[self.name]:
            self.require(name not in seen, "L15", self.tree)
            seen.add(name)

    def check_imports(self):
        self.require(not self.package.in_a_ring(self.name), "L16", None)
        if self.name == "__init__.py":
            files = {file.removesuffix(".py") for file in self.package.trees}
            self.require(not files & (set(self.package.tops[self.name]) | self.imported), "L16", None)
        ended = False
        for node in self.tree.body:
            if isinstance(node, ast.ImportFrom):
                self.require(not ended, "L2", node)
                self.check_import(node)
            elif not isinstance(node, ast.Expr):
                ended = True

    def check_import(self, node):
        if node.level or not (node.module or "").startswith(PACKAGE + "."):
            self.fault("L2", node.lineno)
            return
        file = node.module[len(PACKAGE) + 1:].replace(".", "/") + ".py"
        for alias in node.names:
            self.require(alias.name in self.package.tops.get(file, []), "L16", node)

    def check_node(self, node):
        if isinstance(node, ast.stmt):
            self.require(not isinstance(node, ast.Import), "L2", node)
            self.require(isinstance(node, STATEMENTS), "L6", node)
        if isinstance(node, ast.expr):
            self.require(isinstance(node, EXPRESSIONS), "L7", node)
        for name in bound_names(node):
            self.check_bound(name, node)
        method = getattr(self, "check_" + node.__class__.__name__, None)
        if method:
            method(node)

    def check_bound(self, name, node):
        at_top = isinstance(self.parents.get(node), ast.Assign) and self.parents[self.parents[node]] == self.tree
        taken = name in self.classes or name in self.imported or name in PYTHON_NAMES
        self.require(at_top or not taken, "L15", node)
        self.require(not (at_top and name in PYTHON_NAMES), "L8", node)
        self.check_plain_name(name, node)

    def check_plain_name(self, name, node):
        special = name in ("__all__", "__version__", "__init__")
        self.require(special or not name.startswith("_"), "L12", node)
        self.require(name not in NEVER_NAMES and name not in NOT_AS_NAMES, "L17", node)
        self.require(not re.match("(f|tb|co|gi|cr|ag)_", name), "L17", node)

    def check_ImportFrom(self, node):
        self.require(self.parents[node] == self.tree, "L2", node)

    def check_FunctionDef(self, node):
        self.require(not node.decorator_list and not getattr(node, "type_params", None), "L4", node)
        self.require(node.end_lineno - node.lineno < 40, "L10", node)
        self.require(node.returns is None, "L21", node)
        self.check_plain_name(node.name, node)
        self.require(node.name not in PYTHON_NAMES or self.is_method(node), "L8", node)
        if self.is_method(node):
            free = node.name not in PYTHON_ATTRIBUTES or node.name in METHODS | {"add", "discard", "__init__"}
            self.require(free, "L26", node)
            self.require(node.name not in self.package.own_values, "L18", node)
        if node.name == "__init__":
            returns = [part for part in ast.walk(node) if isinstance(part, ast.Return)]
            self.require(not any(part.value for part in returns), "L28", node)

    def is_method(self, node):
        return isinstance(self.parents[node], ast.ClassDef)

    def check_arguments(self, node):
        self.require(not (node.vararg or node.kwarg or node.kwonlyargs or node.posonlyargs), "L4", self.parents[node])
        self.require(all(is_plain(value, []) for value in node.defaults), "L4", self.parents[node])
        self.require(not any(part.annotation for part in node.args), "L21", self.parents[node])

    def check_ClassDef(self, node):
        self.require(self.parents[node] == self.tree, "L15", node)
        self.require(len(node.bases) <= 1 and not node.keywords and not node.decorator_list, "L5", node)
        self.require(all(isinstance(part, (ast.FunctionDef, ast.Pass)) for part in node.body), "L5", node)
        methods = [part.name for part in node.body if isinstance(part, ast.FunctionDef)]
        self.require(len(methods) == len(set(methods)), "L18", node)
        for base in node.bases:
            own = isinstance(base, ast.Name) and base.id in self.classes | self.imported
            error = isinstance(base, ast.Name) and base.id in PYTHON_ERRORS - {"StopIteration", "AttributeError"}
            self.require(own or error, "L5", node)

    def check_Assign(self, node):
        self.require(len(node.targets) == 1, "L6", node)
        self.check_target(node.targets[0])

    def check_AugAssign(self, node):
        self.check_target(node.target)

    def check_target(self, target):
        if isinstance(target, (ast.Attribute, ast.Subscript)) and isinstance(target.value, ast.Name):
            name = target.value.id
            self.require(name not in self.package.tops[self.name] and name not in self.imported, "L15", target)

    def check_For(self, node):
        self.require(not node.orelse, "L6", node)
        self.check_not_changed(node)

    def check_While(self, node):
        self.require(not node.orelse, "L6", node)

    def check_not_changed(self, loop):
        walked = {name.id for name in ast.walk(loop.iter) if isinstance(name, ast.Name)}
        if isinstance(loop.iter, ast.Call) and not calls(loop.iter, WALKED) and not calls_method(loop.iter, {"items"}):
            return
        for node in [part for statement in loop.body for part in ast.walk(statement)]:
            stored = isinstance(node, ast.Subscript) and isinstance(node.ctx, ast.Store)
            holder = node.value if stored else node.func.value if calls_method(node, CHANGING) else None
            self.require(not (isinstance(holder, ast.Name) and holder.id in walked), "L23", node)

    def check_Try(self, node):
        self.require(not node.finalbody and node.handlers, "L6", node)
        for handler in node.handlers:
            parts = handler.type.elts if isinstance(handler.type, ast.Tuple) else [handler.type]
            for part in parts:
                self.check_handler(part, node)

    def check_handler(self, part, node):
        self.require(isinstance(part, ast.Name), "L19", node)
        if not isinstance(part, ast.Name) or part.id not in PYTHON_ERRORS:
            return
        known = {"KeyError", "ZeroDivisionError", "StopIteration", "ValueError", "LookupError", "IndexError"}
        self.require(part.id in known, "L19", node)
        if part.id in ("ValueError", "LookupError", "IndexError"):
            self.require(len(node.body) == 1, "L19", node)
            for inner in ast.walk(node.body[0]):
                fine = calls(inner, {"int", "str"}) or calls_method(inner, {"index", "remove"})
                banned = isinstance(inner, (ast.JoinedStr, ast.Slice, ast.Lambda, ast.Mult, ast.Pow, ast.Mod))
                self.require((fine or not isinstance(inner, ast.Call)) and not banned, "L19", node)

    def check_Raise(self, node):
        self.require(isinstance(node.exc, ast.Call) and isinstance(node.exc.func, ast.Name), "L19", node)
        if isinstance(node.exc, ast.Call) and isinstance(node.exc.func, ast.Name):
            self.require(node.exc.func.id not in PYTHON_ERRORS, "L19", node)

    def check_Expr(self, node):
        docstring = node == self.tree.body[0] and is_written_text(node.value)
        self.require(docstring or isinstance(node.value, ast.Call), "L6", node)

    def check_Constant(self, node):
        plain = isinstance(node.value, (int, str)) or node.value is None
        self.require(plain, "L7", node)

    def check_BinOp(self, node):
        self.require(not isinstance(node.op, (ast.Div, ast.MatMult)), "L7", node)
        if isinstance(node.op, ast.Pow):
            power = node.right.value if isinstance(node.right, ast.Constant) else None
            self.require(isinstance(power, int) and 0 <= power <= 64, "L27", node)

    def check_ListComp(self, node):
        self.require(len(node.generators) == 1, "L7", node)
        self.require(len(node.generators[0].ifs) <= 1 and not node.generators[0].is_async, "L7", node)

    def check_FormattedValue(self, node):
        self.require(isinstance(node.value, ast.Name) and node.format_spec is None, "L7", node)
        self.require(node.conversion in (-1, ord("r")), "L7", node)

    def check_Set(self, node):
        numbers = [part for part in node.elts if isinstance(part, ast.Constant) and isinstance(part.value, int)]
        self.require(len(numbers) < 3 or self.is_asked_of(node), "L13", node)
        self.check_set_place(node)

    def check_set_place(self, node):
        outer = self.parents[node]
        if isinstance(outer, ast.BinOp) and isinstance(outer.op, SET_OPERATORS):
            self.check_set_place(outer)
            return
        measured = calls(outer, {"sorted", "len"}) and not outer.keywords
        compared = isinstance(outer, ast.Compare) and all(isinstance(op, (ast.Eq, ast.NotEq)) for op in outer.ops)
        self.require(measured or compared or self.is_asked_of(node), "L24", node)

    def is_asked_of(self, node):
        outer = self.parents[node]
        return isinstance(outer, ast.Compare) and isinstance(outer.ops[-1], (ast.In, ast.NotIn)) and node != outer.left

    def check_Lambda(self, node):
        for other in ast.walk(self.tree):
            if isinstance(other, ast.Lambda) and other != node and other.lineno == node.lineno:
                self.require(bound_names(other) != bound_names(node), "L13", node)

    def check_Compare(self, node):
        for op, right in zip(node.ops, node.comparators):
            if isinstance(op, (ast.Is, ast.IsNot)):
                sides = [side for side in (node.left, right) if isinstance(side, ast.Constant)]
                self.require(any(side.value is None or isinstance(side.value, bool) for side in sides), "L20", node)

    def check_Name(self, node):
        if not isinstance(node.ctx, ast.Load):
            return
        self.check_plain_name(node.id, node)
        if node.id in PYTHON_NAMES:
            self.require(node.id in ALLOWED_BUILTINS, "L8", node)
            self.check_builtin_place(node)
        if node.id in self.changeable:
            self.check_changeable_place(node)
        if node.id in self.classes:
            self.check_class_place(node)

    def check_builtin_place(self, node):
        outer = self.parents[node]
        called = isinstance(outer, ast.Call) and outer.func == node
        as_key = isinstance(outer, ast.keyword) and outer.arg == "key" and node.id in KEY_BUILTINS
        self.require(called or as_key or self.is_class_place(node), "L22", node)

    def check_class_place(self, node):
        outer = self.parents[node]
        self.require((isinstance(outer, ast.Call) and outer.func == node) or self.is_class_place(node), "L18", node)

    def is_class_place(self, node):
        outer = self.parents[node]
        if isinstance(outer, ast.Tuple):
            return self.is_class_place(outer)
        kinds = calls(outer, {"isinstance"}) and outer.args[1] == node
        return kinds or isinstance(outer, (ast.ExceptHandler, ast.ClassDef))

    def check_changeable_place(self, node):
        outer = self.parents[node]
        changed = isinstance(outer, ast.Attribute) and outer.attr in CHANGING
        stored = isinstance(outer, ast.Subscript) and not isinstance(outer.ctx, ast.Load)
        handed = isinstance(outer, (ast.Return, ast.Assign, ast.keyword, ast.Tuple, ast.List, ast.Dict))
        given = isinstance(outer, ast.Call) and node in outer.args and not calls(outer, ALLOWED_BUILTINS)
        self.require(not (changed or stored or handed or given), "L15", node)

    def check_Attribute(self, node):
        self.check_plain_name(node.attr, node)
        self.require(node.attr not in ("format", "format_map", "mro"), "L8", node)
        outer = self.parents[node]
        if isinstance(outer, ast.Call) and outer.func == node:
            self.require(node.attr in METHODS | self.package.methods, "L25", node)
        else:
            self.require(node.attr in self.package.own_values, "L25", node)
        if isinstance(node.ctx, ast.Store):
            self.require(node.attr not in PYTHON_ATTRIBUTES or node.attr in FREE_OWN_VALUES, "L26", node)

    def check_Call(self, node):
        own_method = isinstance(node.func, ast.Attribute) and node.func.attr in self.package.methods - METHODS
        if isinstance(node.func, ast.Name) and node.func.id in ALLOWED_BUILTINS:
            self.check_keywords(node, KEYWORDS.get(node.func.id, set()))
        elif isinstance(node.func, ast.Attribute) and not own_method:
            self.check_keywords(node, set())
        if calls(node, {"set", "frozenset"}):
            self.check_set_place(node)
        if calls(node, WALKED) or calls_method(node, WALKED_METHODS):
            self.check_walked(node)

    def check_keywords(self, node, allowed):
        for keyword in node.keywords:
            self.require(keyword.arg in allowed, "L22", node)
            if keyword.arg in ("reverse", "strict"):
                self.require(isinstance(keyword.value, ast.Constant), "L22", node)

    def check_walked(self, node):
        outer = self.parents[node]
        looped = isinstance(outer, (ast.For, ast.comprehension)) and outer.iter == node
        first = calls(outer, WALKERS) and node in (outer.args if calls(outer, {"zip"}) else outer.args[:1])
        alone = not calls(outer, {"min", "max"}) or len(outer.args) == 1
        joined = calls_method(outer, {"join"}) and is_written_text(outer.func.value)
        self.require(looped or (first and alone) or joined, "L23", node)


def faults_of(sources):
    """The faults of a package: a dict from its files' names to their texts is handed in."""
    package = Package(sources)
    return [fault for name, text in sources.items() for fault in FileCheck(name, text, package).run()]
