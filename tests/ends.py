"""What may stand in an `__exit__` of a package, for the trees of all of its files (L6 With of the language subset).

Of what the rule allows, only what is of use here is taken: nothing is called, and nothing is worked out.
"""

import ast

# Where a class of the package has one of these, asking for the truth of something, or comparing it, may call it.
ASKED = ("__eq__", "__len__")
HANDED = ("kind", "value", "trace")
COMPARISONS = (ast.Eq, ast.NotEq, ast.Lt, ast.LtE, ast.Gt, ast.GtE)


def methods_in(trees):
    """Each method with the name of its class."""
    holders = [node for tree in trees for node in ast.walk(tree) if isinstance(node, ast.ClassDef)]
    return [(holder.name, node) for holder in holders for node in holder.body if isinstance(node, ast.FunctionDef)]


def ends_in(trees):
    """Each `__exit__` with the name of its class."""
    return [(title, node) for title, node in methods_in(trees) if node.name == "__exit__"]


def wrong_ends(trees):
    """The pairs of the name of a class and the number of a row of its `__exit__` that is out of the rule."""
    freely = not [node for _, node in methods_in(trees) if node.name in ASKED]
    return [(title, number) for title, node in ends_in(trees) for number in wrong_rows(node.body, freely)]


def wrong_rows(rows, freely):
    found = []
    for row in rows:
        if isinstance(row, ast.If):
            if not all(may_be_asked(part, freely) for part in parts_of_test(row.test)):
                found.append(row.lineno)
            found += wrong_rows(row.body + row.orelse, freely)
        elif not is_giving(row):
            found.append(row.lineno)
    return found


def parts_of_test(test):
    """What a test is made of by `and`, `or` and `not`."""
    if isinstance(test, ast.BoolOp):
        return [part for value in test.values for part in parts_of_test(value)]
    if isinstance(test, ast.UnaryOp) and isinstance(test.op, ast.Not):
        return parts_of_test(test.operand)
    return [test]


def may_be_asked(part, freely):
    if isinstance(part, ast.Compare) and len(part.ops) == 1 and isinstance(part.comparators[0], ast.Constant):
        if isinstance(part.ops[0], (ast.Is, ast.IsNot)) and part.comparators[0].value is None:
            return is_held(part.left) or getattr(part.left, "id", None) == "kind"
        return freely and isinstance(part.ops[0], COMPARISONS) and is_held(part.left)
    return freely and is_held(part)


def is_held(node):
    """Whether it is a name or an attribute, and not what `__exit__` is handed."""
    while isinstance(node, ast.Attribute):
        node = node.value
    return isinstance(node, ast.Name) and node.id not in HANDED


def is_giving(row):
    """Whether it gives an attribute a value that is there or written, or an attribute of `self` a name."""
    if not isinstance(row, ast.Assign) or len(row.targets) != 1 or not is_held(row.targets[0]):
        return False
    if isinstance(row.targets[0], ast.Name):
        return isinstance(row.value, ast.Attribute) and getattr(row.value.value, "id", None) == "self"
    return is_held(row.value) or isinstance(row.value, ast.Constant)
