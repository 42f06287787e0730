"""The rule for the rows of `__exit__` finds the rows that are out of it, in made-up packages and in a changed one."""

import ast
import unittest

from tests.ends import ends_in, wrong_ends
from tests.test_language import files

# Whoever has one of these is asked if its truth is, or if it is compared.
PLAIN = "class Box:\n    pass\n"
EQUAL = "class Box:\n    def __eq__(self, other):\n        return self is other\n"
LONG = "class Box:\n    def __len__(self):\n        return 2\n"

TRUTHS = ["self.stays", "not self.stays", "kind is not None or not self.stays", "self.held.many",
          "kind is None and (self.held is None or held)", "held", "not held"]
COMPARED = ["self.stays == 1", "held != None", "self.held.many > 0", "held.word == 'a'", "self.stays == False",
            "kind is None or not self.many <= 3"]
PLAINLY = ["kind is None", "kind is not None", "self.held is None", "held is not None", "self.held.below is None",
           "not kind is None", "kind is not None or self.stays is None",
           "not (kind is None and self.stays is not None) or held is None"]
NEVER = ["kind", "not kind", "kind == None", "value is None", "trace is not None", "kind.word is None", "self.stays is True",
         "self.stays is not False", "self.stays is held", "held == self.held", "self.full()", "len(self.rows)",
         "self.rows[0]", "self.rows[0] is None", "self.full() is None", "None is kind", "1 == self.many", "True",
         "self.stays in (1, 2)", "kind is self.stays is None", "0 < self.many < 2", "kind is None or kind",
         "(self.many if held is None else held)"]
GIVEN = ["self.held = self.held.below", "self.held = held", "held.state = self.state", "self.held = None", "self.many = 3",
         "self.held.state = held.state", "word = self.word"]
NOT_GIVEN = ["self.held = not self.stays", "self.held = held or self.held", "self.held = held == 1", "self.full()",
             "self.held = self.full()", "self.held = kind", "held.why = value", "self.rows[0] = held", "while held:\n    pass",
             "self.held = 1 if held else 2", "assert self.stays", "self.held = held[0]", "word = held", "kind = None",
             "self.held = held is None", "raise Bad()", "del held", "return held or None", "a = self.b = self.c"]


def package_with(other, *rows):
    """The trees of a package of two files: another class, and one with these rows in its `__exit__`."""
    lines = [line for row in rows for line in row.split("\n")]
    head = "class Trial:\n    def __exit__(self, kind, value, trace):\n        held = self.held\n"
    return [ast.parse(other), ast.parse(head + "".join(f"        {line}\n" for line in lines))]


def wrong_with(other, *rows):
    return wrong_ends(package_with(other, *rows))


class Tests(unittest.TestCase):
    def test_what_is_asked_for_none(self):
        for other in (PLAIN, EQUAL, LONG):
            for test in PLAINLY:
                self.assertEqual(wrong_with(other, f"if {test}:\n    self.held = None"), [], test)

    def test_truths_and_comparisons_beside_equality_or_length(self):
        for test in TRUTHS + COMPARED:
            row = f"if {test}:\n    self.held = None"
            for other in (EQUAL, LONG):
                self.assertEqual(wrong_with(other, row), [("Trial", 4)], test)
            self.assertEqual(wrong_with(PLAIN, row), [], test)

    def test_what_is_never_asked(self):
        for test in NEVER:
            for other in (PLAIN, EQUAL, LONG):
                self.assertEqual(wrong_with(other, f"if {test}:\n    self.held = None"), [("Trial", 4)], test)

    def test_tests_within_one_another(self):
        row = "if kind is None:\n    if self.stays:\n        self.held = None\nelif held:\n    self.held = 2"
        self.assertEqual(wrong_with(EQUAL, row), [("Trial", 5), ("Trial", 7)])
        row = "if kind is None:\n    self.held = None\nelse:\n    if not held:\n        self.held = 1"
        self.assertEqual(wrong_with(LONG, row), [("Trial", 7)])

    def test_rows(self):
        for row in GIVEN:
            self.assertEqual(wrong_with(EQUAL, row), [], row)
        for row in NOT_GIVEN:
            for other in (PLAIN, EQUAL):
                self.assertEqual(wrong_with(other, row), [("Trial", 4)], row)
                inner = "if kind is None:\n    " + row.replace("\n", "\n    ")
                self.assertEqual(wrong_with(other, inner), [("Trial", 5)], row)

    def test_each_end_is_asked(self):
        trees = package_with(EQUAL, "if held:\n    self.held = 1")
        trees.append(ast.parse("class Other:\n    def __exit__(self, kind, value, trace):\n        self.shut()\n"))
        self.assertEqual([title for title, _ in ends_in(trees)], ["Trial", "Other"])
        self.assertEqual(wrong_ends(trees), [("Trial", 4), ("Other", 3)])

    def test_the_class_that_is_asked_may_be_the_same_one(self):
        for name in ("__eq__(self, other)", "__len__(self)"):
            source = f"class Trial:\n    def {name}:\n        return 0\n    def __exit__(self, kind, value, trace):\n"
            self.assertEqual(wrong_ends([ast.parse(source + "        if self.held:\n            self.held = 1\n")]),
                             [("Trial", 5)])


class Package(unittest.TestCase):
    def test_tests_that_trials_may_not_have(self):
        """Each test in an `__exit__` of the package, with another one in its place."""
        trees = [ast.parse(path.read_text()) for path in files()]
        self.assertEqual(wrong_ends(trees), [])
        asking = [(title, row) for title, node in ends_in(trees) for row in ast.walk(node) if isinstance(row, ast.If)]
        self.assertTrue(asking)
        for title, row in asking:
            kept = row.test
            for test in TRUTHS + COMPARED + NEVER:
                row.test = ast.parse(test, mode="eval").body
                self.assertEqual(wrong_ends(trees), [(title, row.lineno)], test)
            row.test = kept


if __name__ == "__main__":
    unittest.main()
