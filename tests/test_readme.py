"""The examples of README.md and of DOC.md answer as they stand there."""

import ast
import doctest
import importlib
import os
import re
import unittest

from kindscarried.errors import CarriedError

TOP = os.path.dirname(os.path.dirname(os.path.abspath(__file__)))
DOC = os.path.join(os.path.dirname(TOP), "shared", "DOC.md")


def interface():
    """All names that the modules of the package define."""
    names = {}
    for module in sorted(os.listdir(os.path.join(TOP, "kindscarried"))):
        if module.endswith(".py") and module != "__init__.py":
            loaded = importlib.import_module("kindscarried." + module[:-3])
            for name, value in vars(loaded).items():
                if getattr(value, "__module__", None) == loaded.__name__ and not name.startswith("_"):
                    names[name] = value
    return names


def examples(text):
    """The lists of (row, wanted answer or None) of each block of code."""
    for block in re.findall(r"```\n(.*?)```", text, re.S):
        rows = []
        for line in block.splitlines():
            if line.startswith(">>> "):
                rows.append([line[4:], None])
            elif rows:
                rows[-1][1] = line
        yield rows


class Examples(unittest.TestCase):
    def test_readme(self):
        failed, tried = doctest.testfile(os.path.join(TOP, "README.md"), module_relative=False)
        self.assertEqual(failed, 0)
        self.assertGreater(tried, 4)

    @unittest.skipUnless(os.path.exists(DOC), "the document does not stand beside the project")
    def test_document(self):
        with open(DOC, encoding="utf-8") as held:
            text = held.read()
        tried = 0
        for rows in examples(text):
            scope = interface()
            for row, wanted in rows:
                tried += 1
                if wanted is None:
                    exec(row, scope)
                elif wanted.startswith("raises "):
                    error, value = re.fullmatch(r"raises (\w+)\((.*)\)", wanted).groups()
                    with self.assertRaises(CarriedError) as caught:
                        eval(row, scope)
                    self.assertEqual(type(caught.exception).__name__, error)
                    self.assertEqual(list(vars(caught.exception).values()), [ast.literal_eval(value)])
                else:
                    self.assertEqual(repr(eval(row, scope)), wanted, row)
        self.assertEqual(tried, text.count("\n>>> "))
        self.assertGreaterEqual(tried, 37)


if __name__ == "__main__":
    unittest.main()
