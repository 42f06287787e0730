"""The rules of the language subset that can be read off the files of the package by machine."""

import ast
import pathlib
import unittest

PACKAGE = pathlib.Path(__file__).resolve().parent.parent / "seatbuttons"

BUILTINS = """len range enumerate zip min max sum abs sorted reversed int str bool bytes list tuple dict set
    isinstance ord repr any all divmod getattr hasattr setattr iter next map super property staticmethod
    classmethod Exception ValueError TypeError KeyError IndexError LookupError ZeroDivisionError
    ArithmeticError OverflowError RuntimeError NotImplementedError AttributeError NotImplemented""".split()
LIBRARY = {
    "heapq": "heappush heappop heapify heapreplace heappushpop",
    "math": "gcd lcm isqrt comb perm factorial",
    "itertools": "product combinations permutations chain accumulate pairwise islice zip_longest",
    "collections": "defaultdict deque",
}
METHODS = """append clear copy count endswith extend find get index insert isalnum isalpha isdigit islower
    isspace isupper items join keys ljust lower lstrip partition pop remove replace reverse rfind rjust
    rpartition rsplit rstrip setdefault split splitlines startswith strip update upper values zfill
    bit_length add discard removeprefix removesuffix""".split()
BARRED_NODES = (
    ast.AsyncFunctionDef, ast.AsyncFor, ast.AsyncWith, ast.Await, ast.Global, ast.Import, ast.Div, ast.MatMult,
)
TAKING_LISTS = "any all min max sum sorted".split()


def files():
    return sorted(PACKAGE.rglob("*.py"))


def parsed():
    """Each file with its tree."""
    return [(path, ast.parse(path.read_text())) for path in files()]


def nodes(kind):
    return [(path, node) for path, tree in parsed() for node in ast.walk(tree) if isinstance(node, kind)]


def bound_names(tree):
    """The names that a tree gives a meaning, beside imports, methods and attributes."""
    names = [node.id for node in ast.walk(tree) if isinstance(node, ast.Name) and isinstance(node.ctx, ast.Store)]
    names += [node.arg for node in ast.walk(tree) if isinstance(node, ast.arg)]
    return names + defined_in(tree)


def defined_in(tree):
    kinds = (ast.FunctionDef, ast.ClassDef)
    names = [node.name for node in tree.body if isinstance(node, kinds)]
    for node in tree.body:
        if isinstance(node, ast.Assign):
            names += [target.id for target in node.targets]
    return names


def imported_in(tree):
    return [alias.name for node in tree.body if isinstance(node, ast.ImportFrom) for alias in node.names]


class Files(unittest.TestCase):
    def test_the_folder_holds_python_files_alone(self):
        for path in PACKAGE.rglob("*"):
            if "__pycache__" not in path.parts and not path.is_dir():
                self.assertEqual(path.suffix, ".py", path)
        self.assertTrue((PACKAGE / "__init__.py").is_file())

    def test_sizes_and_signs(self):
        for path in files():
            text = path.read_text()
            self.assertTrue(all(sign == "\n" or " " <= sign <= "~" for sign in text), path)
            self.assertLessEqual(len(text.splitlines()), 399, path)
            for line in text.splitlines():
                self.assertLessEqual(len(line), 120, (path, line))

    def test_functions_have_at_most_40_lines(self):
        for path, node in nodes(ast.FunctionDef):
            self.assertLessEqual(node.end_lineno - node.lineno + 1, 40, (path, node.name))

    def test_module_level(self):
        for path, tree in parsed():
            for node in tree.body[1:]:
                kinds = (ast.ImportFrom, ast.FunctionDef, ast.ClassDef, ast.Assign)
                self.assertIsInstance(node, kinds, path)
            names = imported_in(tree) + defined_in(tree)
            self.assertEqual(len(names), len(set(names)), path)


class Names(unittest.TestCase):
    def test_imports(self):
        for path, node in nodes(ast.ImportFrom):
            self.assertEqual(node.level, 0, path)
            for alias in node.names:
                self.assertIsNone(alias.asname, path)
                if node.module in LIBRARY:
                    self.assertIn(alias.name, LIBRARY[node.module].split(), path)
                else:
                    self.assertTrue(node.module.startswith("seatbuttons."), (path, node.module))
                    source = PACKAGE.parent / (node.module.replace(".", "/") + ".py")
                    self.assertIn(alias.name, defined_in(ast.parse(source.read_text())), path)

    def test_only_told_builtins_and_no_name_of_one_is_bound(self):
        every = dir(__builtins__) if not isinstance(__builtins__, dict) else list(__builtins__)
        for path, tree in parsed():
            own = bound_names(tree) + imported_in(tree)
            for name in bound_names(tree):
                self.assertNotIn(name, every, path)
            for node in ast.walk(tree):
                if isinstance(node, ast.Name) and node.id not in own:
                    self.assertIn(node.id, BUILTINS, path)

    def test_no_local_name_is_that_of_a_class_or_an_import(self):
        for path, tree in parsed():
            taken = imported_in(tree) + [node.name for node in tree.body if isinstance(node, ast.ClassDef)]
            for function in [node for node in ast.walk(tree) if isinstance(node, ast.FunctionDef)]:
                local = [node.arg for node in ast.walk(function) if isinstance(node, ast.arg)]
                local += [node.id for node in ast.walk(function)
                          if isinstance(node, ast.Name) and isinstance(node.ctx, ast.Store)]
                for name in local:
                    self.assertNotIn(name, taken, (path, function.name))


class Expressions(unittest.TestCase):
    def test_barred_nodes(self):
        self.assertEqual(nodes(BARRED_NODES), [])
        for path, node in nodes(ast.Constant):
            self.assertNotIsInstance(node.value, (float, complex), path)
            if isinstance(node.value, str):
                self.assertNotIn("%", node.value, path)

    def test_exponents_are_literals(self):
        for path, node in nodes(ast.BinOp):
            if isinstance(node.op, ast.Pow):
                self.assertIsInstance(node.right, ast.Constant, path)
                self.assertIn(node.right.value, range(65), path)

    def test_is_stands_beside_none_true_and_false(self):
        for path, node in nodes(ast.Compare):
            for sign, right in zip(node.ops, node.comparators):
                if isinstance(sign, (ast.Is, ast.IsNot)):
                    self.assertIsInstance(right, ast.Constant, (path, node.lineno))

    def test_methods_of_builtin_values(self):
        own = [node.name for _, holder in nodes(ast.ClassDef) for node in holder.body
               if isinstance(node, ast.FunctionDef)]
        for path, node in nodes(ast.Call):
            if isinstance(node.func, ast.Attribute):
                self.assertIn(node.func.attr, METHODS + own + ["__init__"], (path, node.lineno))

    def test_generators_stand_in_none_that_take_lists(self):
        for path, node in nodes(ast.Call):
            if isinstance(node.func, ast.Name) and node.func.id in TAKING_LISTS:
                for argument in node.args:
                    self.assertNotIsInstance(argument, ast.GeneratorExp, (path, node.lineno))


if __name__ == "__main__":
    unittest.main()
