"""Every name of the interface that has landed stands in its file, with its parameters."""

import ast
import inspect
import unittest
from pathlib import Path

from bitcounts import errors, formulas, words

FOLDER = Path(__file__).parent.parent / "bitcounts"
FUNCTIONS = {words: {"var": ["name"], "word": ["c"], "formula": ["f"]}}
PROPERTIES = ["names", "rank", "basis", "equations", "firsts"]
METHODS = ["at", "of", "__add__", "__radd__", "__sub__", "__rsub__", "__neg__", "__mul__", "__rmul__",
           "__pow__", "__eq__", "__bool__", "__repr__"]
CLASSES = {formulas: "Formula", words: "Word"}
ERRORS = ["InputError", "StateError", "LimitError", "InvalidName", "InvalidNumber", "InvalidValues", "InvalidDeeds",
          "InvalidText", "InvalidCommand", "NotAWord", "NotAFormula", "NotATest", "NotAVariable", "WrongNames",
          "UnknownName", "Refused", "Parted", "Busy", "NothingToUndo", "TooMany", "TooManyNames", "TooManyClasses"]


def defined(module):
    tree = ast.parse(Path(module.__file__).read_text())
    return [node.name for node in tree.body if isinstance(node, (ast.FunctionDef, ast.ClassDef))]


class Interface(unittest.TestCase):
    def test_functions(self):
        for module, functions in FUNCTIONS.items():
            for name, parameters in functions.items():
                self.assertIn(name, defined(module))
                self.assertEqual(list(inspect.signature(getattr(module, name)).parameters), parameters)

    def test_classes(self):
        for module, name in CLASSES.items():
            self.assertIn(name, defined(module))
            own = vars(getattr(module, name))
            for method in PROPERTIES + METHODS:
                self.assertIn(method, own)
            self.assertEqual(str(inspect.signature(own["at"])), "(self, pairs)")
            self.assertEqual(inspect.signature(own["of"]).parameters["numbers"].kind, inspect.Parameter.VAR_KEYWORD)

    def test_errors(self):
        self.assertEqual(sorted(defined(errors)), sorted(ERRORS))

    def test_the_package_is_one_folder_without_tests(self):
        for path in FOLDER.rglob("*"):
            if path.name != "__pycache__" and path.suffix != ".pyc":
                self.assertEqual(path.suffix, ".py")
                self.assertFalse(path.name.startswith("test"))
        self.assertTrue((FOLDER / "__init__.py").is_file())


if __name__ == "__main__":
    unittest.main()
