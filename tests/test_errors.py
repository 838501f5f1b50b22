import unittest

from piledoors import errors
from piledoors.workshop.workshop import Workshop

MESSAGES = ("InvalidLabels", "InvalidStack", "InvalidModule", "InvalidRule", "InvalidInterface", "InvalidWires",
            "InvalidBlocks", "InvalidContext", "InvalidProgram", "InvalidEdit", "InvalidClaim", "ParseError",
            "InvalidCommand")
VALUES = (("UnknownEntry", "name", KeyError), ("UnknownState", "state", IndexError),
          ("InvalidNumber", "value", IndexError), ("UnknownModule", "name", LookupError),
          ("NameConflict", "name", RuntimeError), ("TooLarge", "limit", OverflowError),
          ("NotEquivalent", "stack", ArithmeticError), ("NothingToUndo", "many", IndexError))


class ErrorsTest(unittest.TestCase):
    def test_errors_with_a_message(self):
        self.assertEqual(errors.PileError.__bases__, (ValueError,))
        for name in ("PileError",) + MESSAGES:
            kind = getattr(errors, name)
            if name != "PileError":
                self.assertEqual(kind.__bases__, (errors.PileError,), name)
            self.assertEqual(str(kind("what is wrong")), "what is wrong")
            with self.assertRaises(ValueError) as caught:
                raise kind("why")
            self.assertEqual(str(caught.exception), "why")

    def test_errors_with_a_value(self):
        for name, attribute, base in VALUES:
            kind = getattr(errors, name)
            self.assertEqual(kind.__bases__, (base,), name)
            for value in ("out", 201, -10 ** 39, None, True, (1, ("a",)), ["x"], {"a": [()]}):
                made = kind(value)
                self.assertIs(getattr(made, attribute), value)
                self.assertIs(getattr(kind(**{attribute: value}), attribute), value)
                self.assertEqual(str(made), str(kind(**{attribute: value})))
                self.assertIn(repr(value), made.args[0])
                with self.assertRaises(base):
                    raise made
            self.assertRaises(TypeError, kind)
            self.assertRaises(TypeError, kind, 1, 2)

    def test_what_is_not_shown(self):
        """Python does not write them out, but an error keeps every value; and objects."""
        for name, attribute, base in VALUES:
            kind = getattr(errors, name)
            workshop = Workshop(("a",))
            for value in (10 ** 5000, -10 ** 5000, ("out", (), 10 ** 5000), [{"a": (1, 10 ** 5000)}], {10 ** 5000: 1}, workshop, (workshop, 1)):
                made = kind(value)
                self.assertIs(getattr(made, attribute), value)
                self.assertLess(len(str(made)), 100)
            self.assertIn("9" * 2000, str(kind(10 ** 2000 - 1)))

    def test_there_are_no_other_classes(self):
        found = {name for name, worth in vars(errors).items() if isinstance(worth, type)}
        self.assertEqual(found, {"PileError"} | set(MESSAGES) | {name for name, _, _ in VALUES})
