"""What a script can see of the language rules: `faults_of(source)` and `faults_in(folder)`.

Each fault is a tuple (rule, line, what). Some checks are narrower than the rule that they name (no
generator expression at all, for example); none lets through on purpose what its rule forbids.
"""

import ast
import builtins
import io
import pathlib
import re
import tokenize

from tests.operators import modified, operator_faults

PACKAGE = "idlewrites"

ERRORS = set(
    "Exception ValueError TypeError KeyError IndexError LookupError ZeroDivisionError ArithmeticError "
    "OverflowError RuntimeError NotImplementedError AttributeError StopIteration".split()
)
BUILTINS = ERRORS | set(
    "len range enumerate zip min max sum abs sorted reversed int str bool bytes list tuple dict set isinstance "
    "ord repr any all divmod NotImplemented iter next map super property staticmethod classmethod object".split()
)
LIBRARY = {
    "heapq": set("heappush heappop heapify heapreplace heappushpop".split()),
    "math": set("gcd lcm isqrt comb perm factorial".split()),
    "itertools": set("product combinations permutations".split()),
}
DUNDERS = set(
    "init eq repr str len enter exit call iter lt le gt ge ne add sub mul floordiv mod pow and or xor lshift rshift "
    "radd rsub rmul rfloordiv rmod rand ror rxor rlshift rrshift iadd isub imul ifloordiv imod ipow iand ior ixor "
    "ilshift irshift neg pos invert abs bool contains getitem setitem".split()
)
METHODS = set(
    "append clear copy count endswith extend find get index insert isalnum isalpha isdigit islower isspace isupper "
    "items join keys ljust lower lstrip partition pop remove replace reverse rfind rjust rpartition rsplit rstrip "
    "setdefault split splitlines startswith strip update upper values zfill bit_length title capitalize swapcase "
    "casefold center expandtabs removeprefix removesuffix rindex isascii isdecimal isnumeric istitle isidentifier "
    "isprintable translate add discard sort encode decode hex".split()
)
BARRED_ATTRIBUTES = set(
    "items keys values pop update append clear extend insert remove reverse setdefault sort args encode decode hex "
    "fromhex format format_map mro register elements open input law version_info with_traceback add_note "
    "as_integer_ratio bit_count conjugate from_bytes is_integer to_bytes".split()
)
BARRED_NAMES = set(
    "register mro elements open input law version_info with_traceback add_note attrgetter breakpoint builtins compile "
    "copyright credits delattr dir eval exec exit gc getattr globals hasattr help id importlib license locals "
    "methodcaller os quit setattr super type vars sys __name__".split()
)
BARRED_WORDS = set(
    "type typing typing_extensions enum Enum IntEnum StrEnum Flag IntFlag Generic Protocol ABC ABCMeta namedtuple "
    "NamedTuple TypedDict TYPE_CHECKING abstractmethod".split()
)
BARRED_PARTS = ("dataclass", "overload", "contextmanager", "_wall", "_WallAttr")
BARRED_STARTS = ("_wall", "_pe_", "_dcw_", "_enum_", "_cm_", "_twin_re_", "_lay_", "_law_", "_stub_", "_sre", "_WallAttr")
BARRED_STEMS = ("_cold", "_tuplegetter", "_outside", "_record", "_written_out", "_member_names")
BARRED_FILES = set("test tests testing site conftest sitecustomize usercustomize".split())
ONCE = set("zip enumerate reversed range items keys values map".split())
TAKERS = set("list tuple dict sorted sum any all enumerate zip bytes min max len".split())
STATEMENTS = (
    ast.Assign, ast.AugAssign, ast.AnnAssign, ast.If, ast.While, ast.For, ast.Return, ast.Break, ast.Continue,
    ast.Pass, ast.Raise, ast.Assert, ast.Delete, ast.Nonlocal, ast.Match, ast.With, ast.Try, ast.Expr,
    ast.FunctionDef, ast.ClassDef, ast.ImportFrom, ast.Import,
)
FORBIDDEN = (
    ast.Global, ast.AsyncFunctionDef, ast.AsyncFor, ast.AsyncWith, ast.Await, ast.Div, ast.MatMult,
)


def faults_of(source, methods=()):
    """The faults of one file; methods are the names of those that other files of the package define."""
    try:
        tree = ast.parse(source)
    except SyntaxError as error:
        return [("L6", error.lineno, "not Python")]
    tree.methods = {*methods, *methods_of(tree), "__init__"}
    for node in ast.walk(tree):
        for child in ast.iter_child_nodes(node):
            child.parent = node
    checks = (
        sizes, characters, words, imports, module_level, functions, classes, statements, expressions, literal_strings,
        names, bindings, attributes, errors, calls, iterated_at_once, stored_sets, loops,
    )
    faults = [fault for check in checks for fault in check(tree, source)]
    return sorted(set(faults), key=str)


def faults_in(folder):
    """The faults of a package: those of its files, each with the file's name, and those between the files."""
    folder = pathlib.Path(folder)
    methods = set()
    for path in folder.rglob("*.py"):
        methods |= methods_of(ast.parse(path.read_text(encoding="utf-8")))
    faults = []
    trees = {}
    for path in sorted(folder.rglob("*")):
        if "__pycache__" in path.parts or path.is_dir():
            continue
        name = path.relative_to(folder).as_posix()
        if not re.fullmatch(r"[a-z0-9_/]+\.py", name) or path.stem in BARRED_FILES or path.stem in dir(builtins):
            faults.append((name, "L14", 0, "name of the file"))
            continue
        if path.stem.startswith(("test_", "law_")):
            faults.append((name, "L14", 0, "name of the file"))
        source = path.read_text(encoding="utf-8")
        faults.extend((name, *fault) for fault in faults_of(source, methods))
        trees[path.stem] = ast.parse(source)
    if "__init__" not in trees or len(trees) > 100:
        faults.append(("", "L14", 0, "files of the package"))
    return faults + between_files(trees) + names_between(trees) + operator_faults(trees)


def between_files(trees):
    """The faults of imports: each names the file that defines the name, and none go round."""
    faults = []
    needs = {name: set() for name in trees}
    for name, tree in trees.items():
        for node in tree.body:
            if not isinstance(node, ast.ImportFrom) or not (node.module or "").startswith(PACKAGE + "."):
                continue
            source = node.module.removeprefix(PACKAGE + ".")
            needs[name].add(source)
            defined = module_names(trees[source]) if source in trees else []
            for alias in node.names:
                if alias.name not in defined:
                    faults.append((name, "L16", node.lineno, f"{alias.name} is not defined there"))
    for name in sorted(needs):
        seen, todo = set(), list(needs[name])
        while todo:
            here = todo.pop()
            if here not in seen:
                seen.add(here)
                todo.extend(needs.get(here, ()))
        if name in seen:
            faults.append((name, "L16", 0, "imports go round"))
    return faults


def names_between(trees):
    """The faults of names that mean two things in the package: a generator's, a class method's, and others."""
    functions, inside, stored = {}, {}, {}
    for file, tree in sorted(trees.items()):
        for node in ast.walk(tree):
            for child in ast.iter_child_nodes(node):
                child.parent = node
            if isinstance(node, ast.FunctionDef):
                functions.setdefault(node.name, []).append((file, node))
            elif isinstance(node, ast.ClassDef):
                for name in methods_of(node):
                    inside.setdefault(name, []).append((file, node))
            elif isinstance(node, ast.Attribute) and isinstance(node.ctx, ast.Store):
                stored.setdefault(node.attr, []).append((file, node))
    faults = []
    for name, found in functions.items():
        file, node = found[-1]
        if name in inside and name in stored:
            faults.append((file, "L18", node.lineno, f"{name} is a method and an attribute"))
        if any(inner.decorator_list for _, inner in found) and (len(found) > 1 or name in stored or name in METHODS):
            faults.append((file, "L5", node.lineno, f"{name} is a class method and something else"))
        if any(is_generator(inner) for _, inner in found):
            if len(found) > 1 or name in stored or name in METHODS:
                faults.append((file, "L23", node.lineno, f"{name} is a generator and something else"))
            faults.extend(generator_faults(name, trees))
    return faults


def is_generator(function):
    return any(isinstance(node, (ast.Yield, ast.YieldFrom)) for node in ast.walk(function))


def generator_faults(name, trees):
    """The faults of the places where a generator is named: it is called, and iterated at once."""
    for file, tree in sorted(trees.items()):
        for node in ast.walk(tree):
            if getattr(node, "id", getattr(node, "attr", None)) != name or isinstance(node, ast.Name) and not is_read(node):
                continue
            call = node.parent
            if not isinstance(call, ast.Call) or call.func is not node:
                yield (file, "L23", node.lineno, f"{name} is not called")
                continue
            if any(isinstance(inner, ast.Call) for one in call.args for inner in ast.walk(one)):
                yield (file, "L23", node.lineno, f"{name} gets a call")
            parent = call.parent
            head = isinstance(parent, (ast.For, ast.comprehension)) and parent.iter is call
            if not (head or isinstance(parent, ast.YieldFrom) or called(parent) in TAKERS - {"len"}):
                yield (file, "L23", node.lineno, f"{name} is not iterated at once")


def is_read(node):
    """Whether a name is read, and means what stands at module level."""
    around = node
    while not isinstance(around, (ast.FunctionDef, ast.Module)):
        around = around.parent
    given = [one.arg for one in around.args.args] if isinstance(around, ast.FunctionDef) else []
    return isinstance(node.ctx, ast.Load) and node.id not in given


def methods_of(tree):
    classes_found = [node for node in ast.walk(tree) if isinstance(node, ast.ClassDef)]
    return {inner.name for node in classes_found for inner in node.body if isinstance(inner, ast.FunctionDef)}


def module_names(tree):
    found = []
    for node in tree.body:
        if isinstance(node, (ast.FunctionDef, ast.ClassDef)):
            found.append(node.name)
        elif isinstance(node, ast.Assign):
            found.extend(target.id for target in node.targets if isinstance(target, ast.Name))
    return found


def is_docstring(node):
    parent = getattr(node, "parent", None)
    if not isinstance(parent, ast.Expr):
        return False
    body = getattr(parent.parent, "body", [])
    return isinstance(node.value, str) and bool(body) and body[0] is parent


def sizes(tree, source):
    lines = source.split("\n")
    if len(source.splitlines()) > 399:
        yield ("L10", 399, "too many lines")
    for number, line in enumerate(lines, 1):
        if len(line) > 120:
            yield ("L10", number, "line too long")
    for node in ast.walk(tree):
        if isinstance(node, ast.FunctionDef) and node.end_lineno - node.lineno + 1 > 40:
            yield ("L10", node.lineno, "function too long")


def characters(tree, source):
    for number, line in enumerate(source.split("\n"), 1):
        if not all(" " <= sign <= "~" for sign in line):
            yield ("L14", number, "character")


def words(tree, source):
    """Words that stand nowhere but in comments and docstrings, or not even there."""
    docs = {node.lineno for node in ast.walk(tree) if isinstance(node, ast.Constant) and is_docstring(node)}
    for token in tokenize.generate_tokens(io.StringIO(source).readline):
        if any(part in token.string for part in ("_wall", "_WallAttr", "(type)", "Meta", "metaclass=")):
            yield ("L17", token.start[0], "word in the file")
        if token.type == tokenize.COMMENT or token.type == tokenize.STRING and token.start[0] in docs:
            continue
        for word in re.findall(r"\w+", token.string):
            if word in BARRED_WORDS or any(part in word for part in BARRED_PARTS):
                yield ("L17", token.start[0], word)
        if token.type == tokenize.NAME and not token.string.isascii():
            yield ("L12", token.start[0], token.string)


def imports(tree, source):
    behind = False
    for node in tree.body:
        if isinstance(node, ast.ImportFrom):
            if behind:
                yield ("L2", node.lineno, "import not at the top")
            yield from import_faults(node)
        elif not isinstance(node, ast.Expr):
            behind = True
    for node in ast.walk(tree):
        if isinstance(node, ast.Import) or isinstance(node, ast.ImportFrom) and node.parent is not tree:
            yield ("L2", node.lineno, "import inside, or of a module")


def import_faults(node):
    module = node.module or ""
    for alias in node.names:
        if alias.name == "*" or node.level:
            yield ("L2", node.lineno, "star or dot")
        elif module in LIBRARY:
            if alias.name not in LIBRARY[module] or alias.asname:
                yield ("L2", node.lineno, alias.name)
        elif module == "__future__":
            if alias.name != "annotations":
                yield ("L2", node.lineno, alias.name)
        elif not module.startswith(PACKAGE + ".") or module.endswith("__main__"):
            yield ("L2", node.lineno, module)


def is_plain(node, functions=()):
    """A plain value at module level; names may be those of functions, inside a list, tuple or dict."""
    if isinstance(node, ast.Constant):
        return node.value is None or isinstance(node.value, (int, str, bytes))
    if isinstance(node, ast.UnaryOp):
        return isinstance(node.op, ast.USub) and is_plain(node.operand)
    if isinstance(node, (ast.Tuple, ast.List)):
        return all(is_plain(item, functions) or is_function(item, functions) for item in node.elts)
    if isinstance(node, ast.Dict):
        return all(key and is_plain(key) for key in node.keys) and all(
            is_plain(item, functions) or is_function(item, functions) for item in node.values
        )
    return False


def is_function(node, functions):
    return isinstance(node, ast.Name) and node.id in functions


def module_level(tree, source):
    above = set()
    for node in tree.body:
        if isinstance(node, ast.FunctionDef):
            above.add(node.name)
        if isinstance(node, ast.Expr):
            if not (isinstance(node.value, ast.Constant) and is_docstring(node.value)):
                yield ("L3", node.lineno, "code at module level")
        elif isinstance(node, ast.Assign):
            if len(node.targets) != 1 or not isinstance(node.targets[0], ast.Name) or not is_plain(node.value, above):
                yield ("L3", node.lineno, "no plain value")
            for inner in ast.walk(node.value):
                if inner is not node.value and isinstance(inner, (ast.List, ast.Dict)):
                    yield ("L15", node.lineno, "list or dict inside")
        elif not isinstance(node, (ast.FunctionDef, ast.ClassDef, ast.ImportFrom)):
            yield ("L3", node.lineno, "statement at module level")


def functions(tree, source):
    for node in ast.walk(tree):
        if isinstance(node, ast.FunctionDef):
            in_class = isinstance(node.parent, ast.ClassDef)
            for mark in node.decorator_list:
                setter = isinstance(mark, ast.Attribute) and mark.attr == "setter"
                plain = isinstance(mark, ast.Name) and mark.id in ("property", "staticmethod", "classmethod")
                if not in_class or not (setter or plain) or len(node.decorator_list) > 1:
                    yield ("L4", node.lineno, "decorator")
            given = node.args
            for value in given.defaults + [value for value in given.kw_defaults if value]:
                if not is_plain(value) or isinstance(value, (ast.List, ast.Dict)):
                    yield ("L4", node.lineno, "default value")
            if given.posonlyargs and (not isinstance(node.parent, ast.Module) or given.kwarg):
                yield ("L4", node.lineno, "slash")
            if node.returns or any(one.annotation for one in given.args):
                yield ("L21", node.lineno, "annotation")
            if node.name.startswith("__"):
                yield from double_faults(node, in_class)


def double_faults(node, in_class):
    stem = node.name[2:-2]
    if not in_class or not node.name.endswith("__") or stem not in DUNDERS:
        yield ("L5", node.lineno, node.name)
    returns = [inner for inner in ast.walk(node) if isinstance(inner, ast.Return)]
    if stem == "init" and any(inner.value for inner in returns):
        yield ("L28", node.lineno, "return")
    if stem in ("len", "str", "repr"):
        if not isinstance(node.body[-1], ast.Return):
            yield ("L28", node.lineno, "no return at the end")
        for inner in returns:
            value = inner.value
            is_len = isinstance(value, ast.Call) and isinstance(value.func, ast.Name) and value.func.id == "len"
            if stem == "len" and not is_len and not isinstance(value, ast.Constant):
                yield ("L28", node.lineno, "return of __len__")


def classes(tree, source):
    for node in ast.walk(tree):
        if not isinstance(node, ast.ClassDef):
            continue
        if not isinstance(node.parent, ast.Module) or node.decorator_list or node.keywords:
            yield ("L5", node.lineno, "class")
        if not all(isinstance(base, ast.Name) for base in node.bases):
            yield ("L5", node.lineno, "base class")
        for inner in node.body:
            doc = isinstance(inner, ast.Expr) and isinstance(inner.value, ast.Constant) and is_docstring(inner.value)
            value = isinstance(inner, ast.Assign) and is_plain(inner.value)
            value = value and not isinstance(inner.value, (ast.List, ast.Dict))
            if not (doc or value or isinstance(inner, (ast.FunctionDef, ast.Pass))):
                yield ("L5", inner.lineno, "in a class")
        methods = [inner.name for inner in node.body if isinstance(inner, ast.FunctionDef) and not inner.decorator_list]
        if len(set(methods)) < len(methods):
            yield ("L18", node.lineno, "method twice")
        if "__getitem__" in methods and "__iter__" not in methods:
            yield ("L5", node.lineno, "__getitem__ without __iter__")
        order = {"__lt__", "__le__", "__gt__", "__ge__"} & set(methods)
        if order and "__eq__" not in methods:
            yield ("L5", node.lineno, "order without __eq__")
        stored = {
            inner.attr
            for inner in ast.walk(node)
            if isinstance(inner, ast.Attribute) and isinstance(inner.ctx, ast.Store)
        }
        for name in sorted(stored & set(methods)):
            yield ("L18", node.lineno, f"{name} is method and attribute")


def statements(tree, source):
    for node in ast.walk(tree):
        if isinstance(node, FORBIDDEN) or isinstance(node, ast.stmt) and not isinstance(node, STATEMENTS):
            yield ("L6", getattr(node, "lineno", 0), node.__class__.__name__)
        if isinstance(node, ast.Expr):
            doc = isinstance(node.value, ast.Constant) and is_docstring(node.value)
            if not doc and not isinstance(node.value, (ast.Call, ast.Yield, ast.YieldFrom)):
                yield ("L6", node.lineno, "expression on its own")


def expressions(tree, source):
    for node in ast.walk(tree):
        if isinstance(node, ast.Constant) and isinstance(node.value, (float, complex)):
            yield ("L7", node.lineno, "float")
        if isinstance(node, ast.Constant) and node.value is Ellipsis:
            yield ("L7", node.lineno, "ellipsis")
        if isinstance(node, ast.GeneratorExp):
            yield ("L7", node.lineno, "generator expression beside __eq__")
        if isinstance(node, ast.BinOp) and isinstance(node.op, ast.Pow):
            if isinstance(node.left, ast.Constant) and not isinstance(node.right, ast.Constant):
                yield ("L27", node.lineno, "2 ** n")
        if isinstance(node, ast.Compare) and any(isinstance(op, (ast.Is, ast.IsNot)) for op in node.ops):
            if not any(isinstance(one, ast.Constant) for one in node.comparators):
                yield ("L20", node.lineno, "is")


def literal_strings(tree, source):
    for token in tokenize.generate_tokens(io.StringIO(source).readline):
        if token.type == tokenize.STRING:
            if re.search(r"\\[^nt\\'\"]", token.string.replace("\\\\", "")):
                yield ("L27", token.start[0], "escape")
            if re.match(r"[a-zA-Z]*", token.string).group() not in ("", "f", "b"):
                yield ("L27", token.start[0], "prefix")
    for node in ast.walk(tree):
        if isinstance(node, ast.Constant) and isinstance(node.value, str):
            text = node.value
            if "%" in text:
                yield ("L27", node.lineno, "percent sign")
            if text.endswith(("._", ".__")) or re.fullmatch(r"(?s)__.*__", text) and text != "__main__":
                yield ("L27", node.lineno, "underscores")


def bound_names(tree):
    """All names that are bound, with their nodes."""
    for node in ast.walk(tree):
        if isinstance(node, ast.Name) and not isinstance(node.ctx, ast.Load):
            yield node.id, node
        elif isinstance(node, ast.arg):
            yield node.arg, node
        elif isinstance(node, (ast.FunctionDef, ast.ClassDef)):
            yield node.name, node
        elif isinstance(node, ast.alias):
            yield node.asname or node.name, node
        elif isinstance(node, ast.ExceptHandler) and node.name:
            yield node.name, node


def is_method(node):
    return isinstance(node, ast.FunctionDef) and isinstance(node.parent, ast.ClassDef)


def names(tree, source):
    for name, node in bound_names(tree):
        double = is_method(node) and name.startswith("__")
        if not double and not re.fullmatch(r"_|_?[A-Za-z][A-Za-z0-9_]*", name):
            yield ("L12", node.lineno, name)
        if name.startswith(BARRED_STARTS) and not is_method(node) or name.rstrip("0123456789_") in BARRED_STEMS:
            yield ("L12", node.lineno, name)
        if isinstance(node, ast.ClassDef) and name.startswith("_"):
            yield ("L12", node.lineno, name)
        if name in BARRED_NAMES:
            yield ("L17", node.lineno, name)
    for node in ast.walk(tree):
        if isinstance(node, ast.Name) and isinstance(node.ctx, ast.Load) and node.id == "_":
            yield ("L12", node.lineno, "_ is read")


def bindings(tree, source):
    """L15, and of L8 that nothing is read but what is bound or an allowed builtin."""
    bound = {name for name, _ in bound_names(tree)}
    imported = {alias.asname or alias.name for node in tree.body if isinstance(node, ast.ImportFrom) for alias in node.names}
    top = module_names(tree) + sorted(imported)
    for name in sorted(set(top)):
        if top.count(name) > 1:
            yield ("L15", 0, f"{name} twice at module level")
    fixed = imported | {node.name for node in tree.body if isinstance(node, ast.ClassDef)}
    for name, node in bound_names(tree):
        at_top = isinstance(node.parent, ast.Module) or isinstance(node, ast.alias)
        if name in fixed and not at_top and not is_method(node):
            yield ("L15", node.lineno, f"{name} is a class or an import")
        if name in dir(builtins) and (not is_method(node) or name in BUILTINS):
            yield ("L15", node.lineno, f"{name} is a builtin")
    for node in ast.walk(tree):
        if isinstance(node, ast.Name) and isinstance(node.ctx, ast.Load) and node.id not in bound | BUILTINS:
            yield ("L8", node.lineno, node.id)


def attributes(tree, source):
    for node in ast.walk(tree):
        if not isinstance(node, ast.Attribute):
            continue
        name = node.attr
        if name.startswith("__") and name != "__init__" and name not in ("__class__", "__name__"):
            yield ("L5", node.lineno, name)
        if isinstance(node.ctx, ast.Store) and name in BARRED_ATTRIBUTES:
            yield ("L26", node.lineno, name)
        if isinstance(node.ctx, ast.Del):
            yield ("L6", node.lineno, "del of an attribute")
        if name in ("format", "format_map", "mro", "args"):
            yield ("L8", node.lineno, name)


def errors(tree, source):
    own = {node.name for node in ast.walk(tree) if isinstance(node, ast.ClassDef)}
    imported = {alias.name for node in tree.body if isinstance(node, ast.ImportFrom) for alias in node.names}
    for node in ast.walk(tree):
        if isinstance(node, ast.ExceptHandler):
            caught = node.type.elts if isinstance(node.type, ast.Tuple) else [node.type]
            for one in caught:
                allowed = own | imported | set("KeyError ZeroDivisionError StopIteration".split())
                allowed |= set("ValueError LookupError IndexError".split())
                if not isinstance(one, ast.Name) or one.id not in allowed:
                    yield ("L19", node.lineno, "what is caught")
        if isinstance(node, ast.Raise) and node.exc:
            made = isinstance(node.exc, ast.Call) and isinstance(node.exc.func, ast.Name)
            if not made or node.exc.func.id not in own | imported | ERRORS:
                yield ("L19", node.lineno, "what is raised")


def calls(tree, source):
    keywords = {"sorted": {"key", "reverse"}, "min": {"key", "default"}, "max": {"key", "default"}}
    keywords.update({"sum": {"start"}, "enumerate": {"start"}, "zip": {"strict"}})
    for node in ast.walk(tree):
        if isinstance(node, ast.Name) and node.id in BUILTINS - ERRORS - {"NotImplemented", "property"}:
            used = isinstance(node.parent, ast.Call) and (node.parent.func is node or "isinstance" == called(node.parent))
            listed = isinstance(node.parent, ast.Tuple) and called(node.parent.parent) == "isinstance"
            mark = isinstance(node.parent, ast.FunctionDef)
            if not (used or listed or mark or isinstance(node.parent, ast.keyword)):
                yield ("L22", node.lineno, f"{node.id} is not called")
        if not isinstance(node, ast.Call):
            continue
        name = called(node)
        if isinstance(node.func, ast.Name) and name in BUILTINS:
            for one in node.keywords:
                if one.arg not in keywords.get(name, set()):
                    yield ("L22", node.lineno, f"keyword of {name}")
        if isinstance(node.func, ast.Attribute) and name not in METHODS | tree.methods:
            yield ("L25", node.lineno, name)
        if not isinstance(node.func, (ast.Name, ast.Attribute, ast.Subscript)):
            yield ("L7", node.lineno, "what is called")


def called(node):
    if not isinstance(node, ast.Call):
        return None
    if isinstance(node.func, ast.Name):
        return node.func.id
    if isinstance(node.func, ast.Attribute):
        return node.func.attr
    return None


def iterated_at_once(tree, source):
    for node in ast.walk(tree):
        name = called(node)
        if name not in ONCE or name in ("items", "keys", "values") and (node.args or node.keywords):
            continue
        parent = node.parent
        if isinstance(parent, (ast.For, ast.comprehension)) and parent.iter is node:
            continue
        if called(parent) in TAKERS and parent.args[0] is node:
            continue
        if isinstance(parent, ast.Compare) and name == "range" or isinstance(parent, ast.YieldFrom):
            continue
        if called(parent) == "join" and isinstance(parent.func.value, ast.Constant):
            continue
        yield ("L23", node.lineno, f"{name} is not iterated at once")


def stored_sets(tree, source):
    for node in ast.walk(tree):
        is_set = called(node) == "set" and isinstance(node.func, ast.Name)
        if not is_set and not isinstance(node, (ast.Set, ast.SetComp)):
            continue
        parent = node.parent
        while isinstance(parent, ast.BinOp):
            parent = parent.parent
        if called(parent) in ("sorted", "len") or isinstance(parent, ast.Compare):
            continue
        alone = isinstance(parent, ast.Assign) and len(parent.targets) == 1 and isinstance(parent.targets[0], ast.Name)
        if not alone or isinstance(parent.parent, ast.Module):
            yield ("L24", node.lineno, "set")


def loops(tree, source):
    """What a loop iterates over is not modified in it."""
    for node in ast.walk(tree):
        if not isinstance(node, ast.For):
            continue
        heads = [node.iter]
        if called(node.iter) in ("enumerate", "zip", "reversed", "range", "map"):
            heads = node.iter.args
        elif called(node.iter) in ("items", "keys", "values"):
            heads = [node.iter.func.value]
        over = {ast.unparse(head) for head in heads}
        for statement in node.body:
            for inner in ast.walk(statement):
                for what in modified(inner):
                    if what in over:
                        yield ("L23", inner.lineno, f"{what} is modified")
