"""What a script can see of L5 Operators: all that an operator of the package reaches changes nothing.

`operator_faults(trees)` takes the trees of all files by their names and tells the faults as tuples
(file, rule, line, what). A call is taken for one of each function, class and method of its name.
"""

import ast
import builtins

FREE = ("__init__", "__call__", "__iter__", "__setitem__", "__enter__", "__exit__")
IN_PLACE = ("__iadd__", "__isub__", "__imul__", "__ifloordiv__", "__iand__", "__ior__", "__ixor__")
MODIFIERS = set("append clear extend insert pop remove reverse setdefault update sort add discard".split())
LISTS = (ast.List, ast.Dict, ast.ListComp)


def operator_faults(trees):
    functions = functions_by_name(trees)
    stored = stored_attributes(trees)
    faults = []
    for file, function in reached(trees, functions):
        for line, what in sorted(set(faults_of_function(function, functions, stored))):
            faults.append((file, "L5", line, what))
    return faults


def functions_by_name(trees):
    """The pairs (file, function) by their names; a class goes by the name for its __init__."""
    found = {}
    for file, tree in trees.items():
        for node in ast.walk(tree):
            if isinstance(node, ast.FunctionDef):
                found.setdefault(node.name, []).append((file, node))
            elif isinstance(node, ast.ClassDef):
                made = [inner for inner in node.body if is_called(inner, "__init__")]
                found.setdefault(node.name, []).extend((file, inner) for inner in made)
    return found


def is_called(node, name):
    return isinstance(node, ast.FunctionDef) and node.name == name


def stored_attributes(trees):
    """The names of all attributes that are stored in the package."""
    return {
        node.attr
        for tree in trees.values()
        for node in ast.walk(tree)
        if isinstance(node, ast.Attribute) and isinstance(node.ctx, ast.Store)
    }


def reached(trees, functions):
    """The pairs (file, function) of the operators and properties, and of all that these reach."""
    todo = []
    for file, tree in trees.items():
        for node in ast.walk(tree):
            for inner in getattr(node, "body", []) if isinstance(node, ast.ClassDef) else []:
                if isinstance(inner, ast.FunctionDef) and is_root(inner):
                    todo.append((file, inner))
    seen = []
    while todo:
        file, function = todo.pop()
        if (file, function) not in seen:
            seen.append((file, function))
            for node in ast.walk(function):
                if isinstance(node, ast.Call):
                    todo.extend(functions.get(name_of(node), []))
    return seen


def is_root(method):
    marks = [mark.id for mark in method.decorator_list if isinstance(mark, ast.Name)]
    double = method.name.startswith("__") and method.name not in FREE and method.name not in IN_PLACE
    return double or "property" in marks


def name_of(call):
    if isinstance(call.func, ast.Name):
        return call.func.id
    return getattr(call.func, "attr", None)


def faults_of_function(function, functions, stored):
    made = own_lists(function)
    this = function.args.args[0].arg if function.args.args else None
    for node in ast.walk(function):
        if isinstance(node, ast.Attribute) and not isinstance(node.ctx, ast.Load):
            if function.name != "__init__" or ast.unparse(node.value) != this:
                yield node.lineno, f"{node.attr} is stored in what an operator reaches"
        for what in modified(node):
            if what not in made:
                yield node.lineno, f"{what} is modified in what an operator reaches"
        if not isinstance(node, ast.Call):
            continue
        if isinstance(node.func, ast.Name):
            known = node.func.id in functions or node.func.id in dir(builtins) or node.func.id[0].isupper()
            if not known:
                yield node.lineno, f"{node.func.id} is called in what an operator reaches"
        elif not isinstance(node.func, ast.Attribute):
            yield node.lineno, "an item is called in what an operator reaches"
        elif node.func.attr in stored:
            yield node.lineno, f"{node.func.attr} is an attribute and called in what an operator reaches"


def own_lists(function):
    """The local variables that the function assigns only lists, dicts and literals that it makes itself."""
    made, others = set(), set()
    for node in ast.walk(function):
        if isinstance(node, ast.Assign):
            value = node.value
            call = isinstance(value, ast.Call) and isinstance(value.func, ast.Name) and value.func.id
            right = isinstance(value, LISTS) or call in ("list", "dict", "sorted") or isinstance(value, ast.Constant)
            for target in node.targets:
                (made if right else others).add(ast.unparse(target))
    return made - others


def modified(node):
    """What a statement or a call modifies, as it is written."""
    if isinstance(node, ast.Call) and isinstance(node.func, ast.Attribute) and node.func.attr in MODIFIERS:
        yield ast.unparse(node.func.value)
    if isinstance(node, ast.Subscript) and not isinstance(node.ctx, ast.Load):
        yield ast.unparse(node.value)
    if isinstance(node, ast.AugAssign):
        yield ast.unparse(node.target)
