import unittest

from bitcounts import errors
from tests.support import Other

BASES = {"InputError": ValueError, "StateError": LookupError, "LimitError": ArithmeticError}
FIELDS = {
    "InputError": {
        "InvalidName": "name", "InvalidNumber": "number", "InvalidValues": "index", "InvalidDeeds": "index",
        "InvalidText": "text", "InvalidCommand": "command", "NotAWord": "value", "NotAFormula": "value",
        "NotATest": "value", "NotAVariable": "value", "WrongNames": "name",
    },
    "StateError": {"UnknownName": "name", "Refused": "index", "Parted": "pairs", "Busy": None, "NothingToUndo": None},
    "LimitError": {"TooMany": None, "TooManyNames": None, "TooManyClasses": None},
}
VALUES = [None, True, 0, -7, 10 ** 129, "m", "", (), (("m", 1),), [1, [2]], {"a": 1}, b"x", Other(), Other, errors]


def classes():
    """(base, class, field) of all errors that are made."""
    for base, fields in FIELDS.items():
        for name, field in fields.items():
            yield getattr(errors, base), getattr(errors, name), field


class Errors(unittest.TestCase):
    def test_fields_by_place_and_by_name(self):
        for _, kind, field in classes():
            if field is None:
                self.assertIs(type(kind()), kind)
                self.assertRaises(TypeError, kind, field=1)
                continue
            for value in VALUES:
                self.assertIs(getattr(kind(value), field), value)
                self.assertIs(getattr(kind(**{field: value}), field), value)
            self.assertRaises(TypeError, kind)
            self.assertRaises(TypeError, kind, 1, 2)

    def test_bases(self):
        for name, above in BASES.items():
            self.assertEqual(getattr(errors, name).__bases__, (above,))

    def test_instances_of_own_class_and_bases_only(self):
        all_classes = [getattr(errors, name) for name in BASES] + [kind for _, kind, _ in classes()]
        for base, kind, field in classes():
            error = kind() if field is None else kind(None)
            self.assertEqual([other for other in all_classes if isinstance(error, other)], [base, kind])
            for above in BASES.values():
                self.assertEqual(isinstance(error, above), above is BASES[base.__name__])

    def test_an_error_is_raised_and_caught_by_each_class_above_it(self):
        for base, kind, field in classes():
            for above in (kind, base, BASES[base.__name__]):
                with self.assertRaises(above) as caught:
                    raise kind() if field is None else kind(3)
                self.assertEqual([getattr(caught.exception, field)] if field else [3], [3])


if __name__ == "__main__":
    unittest.main()
