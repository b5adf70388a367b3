import unittest

from deadbeat import errors
from deadbeat.errors import (
    BoundError, CodeError, CommandError, DeadbeatError, MixError, PlanError, RuleError, TextError,
)


class ErrorsTest(unittest.TestCase):
    def test_base(self):
        self.assertTrue(issubclass(DeadbeatError, ValueError))

    def test_all_are_under_the_base(self):
        for kind in (TextError, CommandError, RuleError, CodeError, BoundError, PlanError, MixError):
            self.assertEqual(kind.__bases__, (DeadbeatError,))

    def test_no_other_errors(self):
        found = [name for name, value in sorted(vars(errors).items()) if isinstance(value, type)]
        self.assertEqual(found, [
            "BoundError", "CodeError", "CommandError", "DeadbeatError", "MixError", "PlanError", "RuleError",
            "TextError",
        ])

    def test_lines(self):
        self.assertEqual(TextError(1).line, 1)
        self.assertEqual(CommandError(400).line, 400)

    def test_rule(self):
        self.assertEqual(RuleError("size").rule, "size")

    def test_integers(self):
        for kind in (CodeError, BoundError, PlanError, MixError):
            self.assertEqual(kind(0).at, 0)
            self.assertEqual(kind(-3).at, -3)

    def test_can_be_caught_by_the_base(self):
        for error in (TextError(2), CommandError(2), RuleError("cell"), CodeError(2), BoundError(2), PlanError(2),
                      MixError(2)):
            with self.assertRaises(DeadbeatError):
                raise error
