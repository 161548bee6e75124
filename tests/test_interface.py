"""Every name of the interface that has landed stands in its file, with its parameters."""

import ast
import inspect
import unittest
from pathlib import Path

from bitcounts import (
    certificates, checker, conditions, console, counting, desks, errors, formulas, relations, texts, totals, words,
)

FOLDER = Path(__file__).parent.parent / "bitcounts"
FUNCTIONS = {
    words: {"var": ["name"], "word": ["c"], "formula": ["f"], "same": ["u", "v"], "rests": ["u", "modulus", "rest"]},
    conditions: {"always": []},
    counting: {"ones": ["u"], "length": ["u"], "raised": ["base", "u"], "one_if": ["t"]},
    totals: {"total": ["f", "name", "below"], "count": ["t", "name", "below"]},
    relations: {"parting": ["f", "g"], "relations": ["formulas"], "new_tuples": ["formulas"]},
    texts: {"read_word": ["text"], "read_formula": ["text"], "read_test": ["text"]},
    checker: {"accepts": ["claim", "certificate"]},
    certificates: {"certify_parting": ["f", "g"], "certify_relations": ["formulas"], "certify_within": ["t", "s"],
                   "plain_rule": ["f"], "plain_machine": ["t"]},
}
PROPERTIES = ["names", "rank", "basis", "equations", "firsts"]
FORMULA = ["at", "of", "__add__", "__radd__", "__sub__", "__rsub__", "__neg__", "__mul__", "__rmul__", "__pow__",
           "__eq__", "__bool__", "__repr__"]
WORD = FORMULA + ["__and__", "__rand__", "__or__", "__ror__", "__xor__", "__rxor__", "__invert__", "__lshift__",
                  "__rshift__", "__lt__", "__le__", "__gt__", "__ge__"]
TEST = ["holds", "of", "__and__", "__or__", "__xor__", "__invert__", "__le__", "__eq__", "__bool__", "__repr__"]
CLASSES = {
    "Formula": (formulas, PROPERTIES, FORMULA, "at"),
    "Word": (words, PROPERTIES, WORD, "at"),
    "Test": (conditions, ["names", "classes", "least", "is_finite"], TEST, "holds"),
}
ERRORS = ["InputError", "StateError", "LimitError", "InvalidName", "InvalidNumber", "InvalidValues", "InvalidDeeds",
          "InvalidText", "InvalidCommand", "NotAWord", "NotAFormula", "NotATest", "NotAVariable", "WrongNames",
          "UnknownName", "Refused", "Parted", "Busy", "NothingToUndo", "TooMany", "TooManyNames", "TooManyClasses"]


def defined(module):
    tree = ast.parse(Path(module.__file__).read_text())
    return [node.name for node in tree.body if isinstance(node, (ast.FunctionDef, ast.ClassDef))]


class Interface(unittest.TestCase):
    def test_functions(self):
        for module, functions in FUNCTIONS.items():
            for name, parameters in functions.items():
                self.assertIn(name, defined(module))
                signature = inspect.signature(getattr(module, name)).parameters
                self.assertEqual(list(signature), parameters)
                starred = [part.kind == inspect.Parameter.VAR_POSITIONAL for part in signature.values()]
                self.assertEqual(any(starred), parameters == ["formulas"], name)

    def test_classes(self):
        for name, (module, properties, methods, asking) in CLASSES.items():
            self.assertIn(name, defined(module))
            own = vars(getattr(module, name))
            for part in properties:
                self.assertIsInstance(own[part], property)
            for part in methods:
                self.assertTrue(callable(own[part]))
            self.assertEqual(str(inspect.signature(own[asking])), "(self, pairs)")
            self.assertEqual(inspect.signature(own["of"]).parameters["numbers"].kind, inspect.Parameter.VAR_KEYWORD)

    def test_desk_and_console(self):
        own = vars(desks.Desk)
        self.assertIn("Desk", defined(desks))
        for part in ("names", "claims", "busy", "history"):
            self.assertIsInstance(own[part], property)
        for part, shown in (("drop", "(self, name)"), ("claim", "(self, row)"), ("release", "(self, index)"),
                            ("do_all", "(self, *deeds, watch=None)"), ("undo", "(self, *, times=1)")):
            self.assertEqual(str(inspect.signature(own[part])), shown)
        for part in ("__getitem__", "__setitem__", "__contains__"):
            self.assertTrue(callable(own[part]))
        own = vars(console.Console)
        self.assertIn("Console", defined(console))
        self.assertIsInstance(own["desk"], property)
        self.assertEqual(str(inspect.signature(own["say"])), "(self, line)")

    def test_errors(self):
        self.assertEqual(sorted(defined(errors)), sorted(ERRORS))

    def test_the_package_is_one_folder_without_tests(self):
        for path in FOLDER.rglob("*"):
            if path.name != "__pycache__" and path.suffix != ".pyc":
                self.assertEqual(path.suffix, ".py")
                self.assertFalse(path.name.startswith("test"))
        self.assertTrue((FOLDER / "__init__.py").is_file())


if __name__ == "__main__":
    unittest.main()
