"""Promise 2 and the interface: the error classes."""

import inspect
import unittest

from veiledgates import errors

PARTS = {
    "InvalidName": ("VeilError", ["value"]),
    "InvalidNumber": ("VeilError", ["value"]),
    "InvalidText": ("VeilError", ["line"]),
    "BadSizes": ("VeilError", ["field"]),
    "BadList": ("VeilError", ["at"]),
    "BadBits": ("VeilError", ["at"]),
    "BadWords": ("VeilError", ["at"]),
    "BadWeighing": ("VeilError", ["at"]),
    "BadTable": ("VeilError", ["at"]),
    "BadNet": ("VeilError", ["wire"]),
    "BadOutput": ("VeilError", ["at"]),
    "BadCover": ("VeilError", ["at"]),
    "BadLine": ("VeilError", ["line", "why"]),
    "BadDeed": ("VeilError", ["at"]),
    "TooMany": ("VeilError", ["most"]),
    "NotAllowed": ("VeilError", ["wire", "row"]),
    "NotRoomy": ("VeilError", []),
    "Unlike": ("VeilError", []),
    "Twice": ("VeilError", ["name"]),
    "Clash": ("VeilError", ["wire"]),
    "NoName": ("Missing", ["name"]),
    "NoWire": ("Missing", ["wire"]),
    "NotReady": ("Early", ["wire"]),
    "NothingLeft": ("IndexError", []),
}
BASES = {"VeilError": ValueError, "Missing": LookupError, "Early": RuntimeError}


def base_of(name):
    return IndexError if name == "IndexError" else getattr(errors, name)


class ErrorClasses(unittest.TestCase):
    def test_the_three_bases(self):
        for name, base in BASES.items():
            self.assertEqual(getattr(errors, name).__bases__, (base,))
            self.assertFalse(hasattr(getattr(errors, name)(), "code"))

    def test_there_are_no_other_classes(self):
        there = {name for name, value in vars(errors).items() if inspect.isclass(value)}
        self.assertEqual(there, set(PARTS) | set(BASES))

    def test_each_class_has_its_one_base(self):
        for name, (base, _) in PARTS.items():
            self.assertEqual(getattr(errors, name).__bases__, (base_of(base),), name)

    def test_each_class_is_defined_in_its_file(self):
        for name in list(PARTS) + list(BASES):
            self.assertEqual(getattr(errors, name).__module__, "veiledgates.errors")

    def test_parameters_by_position(self):
        for name, (_, params) in PARTS.items():
            values = [object() for _ in params]
            error = getattr(errors, name)(*values)
            self.assertEqual(error.code, name)
            for param, value in zip(params, values):
                self.assertIs(getattr(error, param), value)

    def test_parameters_by_name(self):
        for name, (_, params) in PARTS.items():
            values = {param: [param] for param in params}
            error = getattr(errors, name)(**values)
            self.assertEqual(error.code, name)
            for param in params:
                self.assertIs(getattr(error, param), values[param])

    def test_any_values_are_kept(self):
        for value in (None, True, 0, -1, "", "a", (1,), [[1]], {"a": [1]}, 10 ** 5000):
            self.assertIs(errors.InvalidNumber(value).value, value)
            self.assertIs(errors.NoWire(value).wire, value)
            self.assertIs(errors.BadLine(0, value).why, value)

    def test_messages_can_be_shown(self):
        for name, (_, params) in PARTS.items():
            self.assertIsInstance(str(getattr(errors, name)(*params)), str)
        self.assertIn("spread", str(errors.BadSizes("spread")))

    def test_they_are_caught_by_their_bases(self):
        with self.assertRaises(ValueError):
            raise errors.BadLine(line=2, why="unknown")
        with self.assertRaises(LookupError):
            raise errors.NoName("a")
        with self.assertRaises(RuntimeError):
            raise errors.NotReady(4)
        with self.assertRaises(IndexError):
            raise errors.NothingLeft()


if __name__ == "__main__":
    unittest.main()
