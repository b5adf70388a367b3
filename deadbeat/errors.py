"""The errors that the program raises."""

from deadbeat.words import decimal


class DeadbeatError(ValueError):
    """The base class of all errors of the program."""


class TextError(DeadbeatError):
    """A text that breaks the rules of tokens or of the grammar."""

    def __init__(self, line):
        super().__init__(f"line {decimal(line)} of the text")
        self.line = line


class CommandError(DeadbeatError):
    """A line of a script that is not a command."""

    def __init__(self, line):
        super().__init__(f"line {decimal(line)} of the script")
        self.line = line


class RuleError(DeadbeatError):
    """A program that breaks a rule."""

    def __init__(self, rule):
        super().__init__(f"rule {rule}")
        self.rule = rule


class CodeError(DeadbeatError):
    """Code or an instruction that is not well formed, or too much code."""

    def __init__(self, at):
        super().__init__(f"code at {decimal(at)}")
        self.at = at


class BoundError(DeadbeatError):
    """A routine whose execution time cannot be bounded."""

    def __init__(self, at):
        super().__init__(f"routine at {decimal(at)}")
        self.at = at


class PlanError(DeadbeatError):
    """A cost, a cache size or cache contents out of range."""

    def __init__(self, at):
        super().__init__(f"value {decimal(at)}")
        self.at = at


class MixError(DeadbeatError):
    """A record that cannot be followed."""

    def __init__(self, at):
        super().__init__(f"entry {decimal(at)}")
        self.at = at
