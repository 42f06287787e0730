"""The sessions in README.md, which are to show what the program does."""

import doctest
import pathlib
import unittest

README = pathlib.Path(__file__).resolve().parent.parent / "README.md"


class Readme(unittest.TestCase):
    def test_sessions(self):
        text = README.read_text().replace("```", "")
        session = doctest.DocTestParser().get_doctest(text, {}, "README", str(README), 0)
        told = []
        results = doctest.DocTestRunner().run(session, out=told.append)
        self.assertGreater(results.attempted, 15)
        self.assertEqual(results.failed, 0, "".join(told))


if __name__ == "__main__":
    unittest.main()
