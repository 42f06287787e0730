"""The rules of the language subset that can be read off the files of the package by machine."""

import ast
import pathlib
import unittest

from tests.ends import ends_in, wrong_ends

PACKAGE = pathlib.Path(__file__).resolve().parent.parent / "seatbuttons"

BUILTINS = """len range enumerate zip min max sum abs sorted reversed int str bool bytes list tuple dict set
    isinstance ord repr any all divmod getattr hasattr setattr iter next map super property staticmethod
    classmethod Exception ValueError TypeError KeyError IndexError LookupError ZeroDivisionError
    ArithmeticError OverflowError RuntimeError NotImplementedError AttributeError NotImplemented""".split()
LIBRARY = {
    "heapq": "heappush heappop heapify heapreplace heappushpop",
    "math": "gcd lcm isqrt comb perm factorial",
    "itertools": "product combinations permutations chain accumulate pairwise islice zip_longest",
    "collections": "defaultdict deque",
}
METHODS = """append clear copy count endswith extend find get index insert isalnum isalpha isdigit islower
    isspace isupper items join keys ljust lower lstrip partition pop remove replace reverse rfind rjust
    rpartition rsplit rstrip setdefault split splitlines startswith strip update upper values zfill
    bit_length add discard removeprefix removesuffix""".split()
BARRED_NODES = (
    ast.AsyncFunctionDef, ast.AsyncFor, ast.AsyncWith, ast.Await, ast.Global, ast.Import, ast.Div, ast.MatMult,
)
ITERATED = "range zip enumerate reversed items keys values".split()
ITERATING = "list tuple dict sorted sum any all enumerate zip min max len join reversed set".split()
ITERATING += "product combinations permutations".split()
BARRED_NAMES = """register mro elements open input law version_info with_traceback add_note compile dir eval exec exit
    globals help id locals os quit super type vars sys _cold _outside _record _written_out _member_names""".split()
BARRED_BEGINNINGS = ("__", "_wall", "_pe_", "_dcw_", "_enum_", "_cm_", "_twin_re_", "_lay_", "_law_", "_stub_", "_sre")
CHANGING = "append clear extend insert pop remove reverse setdefault update add discard".split()
DUNDERS = ("__init__", "__eq__", "__str__", "__repr__", "__contains__", "__enter__", "__exit__")
TAKING_LISTS = "any all min max sum sorted".split()


def files():
    return sorted(PACKAGE.rglob("*.py"))


def parsed():
    """Each file with its tree."""
    return [(path, ast.parse(path.read_text())) for path in files()]


def nodes(kind):
    return [(path, node) for path, tree in parsed() for node in ast.walk(tree) if isinstance(node, kind)]


def bound_names(tree):
    """The names that a tree gives a meaning, beside imports, methods and attributes."""
    names = [node.id for node in ast.walk(tree) if isinstance(node, ast.Name) and isinstance(node.ctx, ast.Store)]
    names += [node.arg for node in ast.walk(tree) if isinstance(node, ast.arg)]
    return names + defined_in(tree)


def defined_in(tree):
    kinds = (ast.FunctionDef, ast.ClassDef)
    names = [node.name for node in tree.body if isinstance(node, kinds)]
    for node in tree.body:
        if isinstance(node, ast.Assign):
            names += [target.id for target in node.targets]
    return names


def methods():
    """Each method with its class."""
    return [(holder, node) for _, holder in nodes(ast.ClassDef) for node in holder.body
            if isinstance(node, ast.FunctionDef)]


def is_property(function):
    return [node.id for node in function.decorator_list if isinstance(node, ast.Name)] == ["property"]


def called_name(node):
    """The name of the function or method that is called, None if it has none."""
    if not isinstance(node, ast.Call):
        return None
    return getattr(node.func, "id", getattr(node.func, "attr", None))


def imported_in(tree):
    return [alias.name for node in tree.body if isinstance(node, ast.ImportFrom) for alias in node.names]


class Files(unittest.TestCase):
    def test_the_folder_holds_python_files_alone(self):
        for path in PACKAGE.rglob("*"):
            if "__pycache__" not in path.parts and not path.is_dir():
                self.assertEqual(path.suffix, ".py", path)
        self.assertTrue((PACKAGE / "__init__.py").is_file())

    def test_sizes_and_signs(self):
        for path in files():
            text = path.read_text()
            self.assertTrue(all(sign == "\n" or " " <= sign <= "~" for sign in text), path)
            self.assertLessEqual(len(text.splitlines()), 399, path)
            for line in text.splitlines():
                self.assertLessEqual(len(line), 120, (path, line))

    def test_functions_have_at_most_40_lines(self):
        for path, node in nodes(ast.FunctionDef):
            self.assertLessEqual(node.end_lineno - node.lineno + 1, 40, (path, node.name))

    def test_module_level(self):
        for path, tree in parsed():
            for node in tree.body[1:]:
                kinds = (ast.ImportFrom, ast.FunctionDef, ast.ClassDef, ast.Assign)
                self.assertIsInstance(node, kinds, path)
            names = imported_in(tree) + defined_in(tree)
            self.assertEqual(len(names), len(set(names)), path)


class Names(unittest.TestCase):
    def test_imports(self):
        for path, node in nodes(ast.ImportFrom):
            self.assertEqual(node.level, 0, path)
            for alias in node.names:
                self.assertIsNone(alias.asname, path)
                if node.module in LIBRARY:
                    self.assertIn(alias.name, LIBRARY[node.module].split(), path)
                else:
                    self.assertTrue(node.module.startswith("seatbuttons."), (path, node.module))
                    source = PACKAGE.parent / (node.module.replace(".", "/") + ".py")
                    self.assertIn(alias.name, defined_in(ast.parse(source.read_text())), path)

    def test_only_told_builtins_and_no_name_of_one_is_bound(self):
        every = dir(__builtins__) if not isinstance(__builtins__, dict) else list(__builtins__)
        for path, tree in parsed():
            own = bound_names(tree) + imported_in(tree)
            for name in bound_names(tree):
                self.assertNotIn(name, every, path)
            for node in ast.walk(tree):
                if isinstance(node, ast.Name) and node.id not in own:
                    self.assertIn(node.id, BUILTINS, path)

    def test_no_local_name_is_that_of_a_class_or_an_import(self):
        for path, tree in parsed():
            taken = imported_in(tree) + [node.name for node in tree.body if isinstance(node, ast.ClassDef)]
            for function in [node for node in ast.walk(tree) if isinstance(node, ast.FunctionDef)]:
                local = [node.arg for node in ast.walk(function) if isinstance(node, ast.arg)]
                local += [node.id for node in ast.walk(function)
                          if isinstance(node, ast.Name) and isinstance(node.ctx, ast.Store)]
                for name in local:
                    self.assertNotIn(name, taken, (path, function.name))


    def test_barred_names(self):
        for path, tree in parsed():
            attributes = [node.attr for node in ast.walk(tree) if isinstance(node, ast.Attribute)]
            defined = [node.name for node in ast.walk(tree) if isinstance(node, ast.FunctionDef)]
            for name in bound_names(tree) + attributes + defined:
                if name not in DUNDERS:
                    self.assertNotIn(name, BARRED_NAMES, path)
                    self.assertFalse(name.startswith(BARRED_BEGINNINGS), (path, name))

    def test_no_two_files_import_one_another(self):
        needed = {}
        for path, tree in parsed():
            froms = [node.module for node in tree.body if isinstance(node, ast.ImportFrom)]
            needed[f"seatbuttons.{path.stem}"] = [name for name in froms if name.startswith("seatbuttons.")]
        while needed:
            free = [name for name, others in needed.items() if not set(others) & set(needed)]
            self.assertTrue(free, needed)
            needed = {name: others for name, others in needed.items() if name not in free}


class Classes(unittest.TestCase):
    def test_decorators(self):
        for path, tree in parsed():
            for node in tree.body:
                if isinstance(node, (ast.FunctionDef, ast.ClassDef)):
                    self.assertEqual(node.decorator_list, [], path)
            for holder in [node for node in tree.body if isinstance(node, ast.ClassDef)]:
                for node in holder.body:
                    for sign in getattr(node, "decorator_list", []):
                        self.assertIn(sign.id, ("property", "staticmethod", "classmethod"), path)

    def test_properties_and_shown_texts_only_return(self):
        for holder, node in methods():
            if is_property(node) or node.name in ("__eq__", "__str__", "__repr__", "__len__"):
                rows = [row for row in node.body if not isinstance(row, ast.Expr)]
                self.assertEqual([type(row) for row in rows], [ast.Return], (holder.name, node.name))

    def test_shown_texts_are_plainly_strings(self):
        for holder, node in methods():
            if node.name in ("__str__", "__repr__"):
                told = node.body[-1].value
                plain = isinstance(told, (ast.Constant, ast.JoinedStr)) or called_name(told) in ("str", "repr", "join")
                self.assertTrue(plain, (holder.name, node.name))

    def test_asking_changes_nothing(self):
        for holder, node in methods():
            if node.name == "__contains__":
                self.assertEqual([type(row) for row in node.body], [ast.Return], holder.name)

    def test_ends_of_trials(self):
        """Behind the rows of a `with` nothing is called and nothing can be wrong: attributes are assigned."""
        trees = [tree for _, tree in parsed()]
        self.assertTrue(ends_in(trees))
        for title, node in ends_in(trees):
            self.assertEqual([argument.arg for argument in node.args.args], ["self", "kind", "value", "trace"], title)
        self.assertEqual(wrong_ends(trees), [])

    def test_nothing_is_returned_within_init(self):
        for holder, node in methods():
            if node.name == "__init__":
                barred = [part for part in ast.walk(node) if isinstance(part, (ast.Return, ast.Lambda))]
                self.assertEqual(barred, [], holder.name)

    def test_no_property_is_assigned(self):
        titles = [node.name for _, node in methods() if is_property(node)]
        for path, node in nodes(ast.Attribute):
            if isinstance(node.ctx, ast.Store):
                self.assertNotIn(node.attr, titles, path)

    def test_names_of_properties(self):
        titles = [node.name for _, node in methods() if is_property(node)]
        others = [node.name for _, node in methods() if not is_property(node)]
        builtin = [name for kind in (str, int, list, dict, set, tuple, bytes) for name in dir(kind)]
        for title in titles:
            self.assertNotIn(title, others + builtin)

    def test_attributes_that_are_read_are_assigned_or_methods(self):
        known = [node.name for _, node in methods()] + METHODS
        known += [node.attr for _, node in nodes(ast.Attribute) if isinstance(node.ctx, ast.Store)]
        for path, node in nodes(ast.Attribute):
            self.assertIn(node.attr, known, path)

    def test_no_method_is_an_attribute_too(self):
        stored = [node.attr for _, node in nodes(ast.Attribute) if isinstance(node.ctx, ast.Store)]
        for holder, node in methods():
            self.assertNotIn(node.name, stored, holder.name)


class Statements(unittest.TestCase):
    def test_errors_are_own_and_made_on_the_spot(self):
        own = defined_in(ast.parse((PACKAGE / "errors.py").read_text()))
        for path, node in nodes(ast.Raise):
            self.assertIn(called_name(node.exc), own, path)
            self.assertTrue(node.cause is None or isinstance(node.cause, ast.Constant), path)
        for path, node in nodes(ast.ExceptHandler):
            caught = node.type.elts if isinstance(node.type, ast.Tuple) else [node.type]
            for kind in caught:
                self.assertIn(kind.id, own, path)

    def test_what_is_iterated_at_once(self):
        for path, tree in parsed():
            allowed = []
            for node in ast.walk(tree):
                if isinstance(node, (ast.For, ast.comprehension)):
                    allowed.append(id(node.iter))
                elif called_name(node) in ITERATING:
                    allowed += [id(argument) for argument in node.args]
            for node in ast.walk(tree):
                if called_name(node) in ITERATED:
                    self.assertIn(id(node), allowed, (path, node.lineno))

    def test_loops_do_not_change_what_they_go_over(self):
        for path, loop in nodes(ast.For):
            over = [ast.dump(node) for node in ast.walk(loop.iter) if isinstance(node, (ast.Name, ast.Attribute))]
            for node in [node for row in loop.body for node in ast.walk(row)]:
                if called_name(node) in CHANGING and isinstance(node.func, ast.Attribute):
                    self.assertNotIn(ast.dump(node.func.value), over, (path, loop.lineno))
                if isinstance(node, ast.Subscript) and isinstance(node.ctx, ast.Store):
                    changed = ast.dump(node.value)
                    self.assertNotIn(changed, over, (path, loop.lineno))

    def test_sets_are_only_asked(self):
        """A set is given a name once in its function, and then added to, asked by `in`, or measured."""
        for path, function in nodes(ast.FunctionDef):
            kept = [node for node in ast.walk(function) if isinstance(node, ast.Assign) and self.is_set(node.value)]
            names = [node.targets[0].id for node in kept]
            self.assertEqual(len(names), len(set(names)), (path, function.name))
            for name in names:
                reads = [node for node in ast.walk(function) if isinstance(node, ast.Name) and node.id == name]
                self.assertEqual(len(reads), 1 + self.asked(function, name), (path, function.name))

    def is_set(self, node):
        return isinstance(node, (ast.Set, ast.SetComp)) or called_name(node) == "set"

    def asked(self, function, name):
        """How often the name of a set is used in a way that is allowed."""
        many = 0
        for node in ast.walk(function):
            if called_name(node) in ("add", "discard"):
                many += getattr(node.func.value, "id", None) == name
            elif called_name(node) in ("len", "sorted"):
                many += getattr(node.args[0], "id", None) == name
            elif isinstance(node, ast.Compare) and isinstance(node.ops[0], (ast.In, ast.NotIn)):
                many += getattr(node.comparators[0], "id", None) == name
        return many


class Expressions(unittest.TestCase):
    def test_barred_nodes(self):
        self.assertEqual(nodes(BARRED_NODES), [])
        for path, node in nodes(ast.Constant):
            self.assertNotIsInstance(node.value, (float, complex), path)
            if isinstance(node.value, str):
                self.assertNotIn("%", node.value, path)

    def test_exponents_are_literals(self):
        for path, node in nodes(ast.BinOp):
            if isinstance(node.op, ast.Pow):
                self.assertIsInstance(node.right, ast.Constant, path)
                self.assertIn(node.right.value, range(65), path)

    def test_is_stands_beside_none_true_false_and_self(self):
        for path, node in nodes(ast.Compare):
            for sign, right in zip(node.ops, node.comparators):
                if isinstance(sign, (ast.Is, ast.IsNot)) and getattr(node.left, "id", None) != "self":
                    self.assertIsInstance(right, ast.Constant, (path, node.lineno))

    def test_no_method_is_read_off_a_class(self):
        titles = [node.name for _, node in nodes(ast.ClassDef)]
        for path, node in nodes(ast.Attribute):
            self.assertNotIn(getattr(node.value, "id", None), titles, (path, node.lineno))

    def test_methods_of_builtin_values(self):
        own = [node.name for _, node in methods()]
        for path, node in nodes(ast.Call):
            if isinstance(node.func, ast.Attribute):
                self.assertIn(node.func.attr, METHODS + own + ["__init__"], (path, node.lineno))

    def test_generators_stand_in_none_that_take_lists(self):
        for path, node in nodes(ast.Call):
            if isinstance(node.func, ast.Name) and node.func.id in TAKING_LISTS:
                for argument in node.args:
                    self.assertNotIsInstance(argument, ast.GeneratorExp, (path, node.lineno))


if __name__ == "__main__":
    unittest.main()
