"""Texts as lists of tokens."""

from deadbeat.errors import TextError
from deadbeat.words import GREATEST_WORD, decimal

RESERVED = (
    "system", "in", "out", "object", "cell", "operation", "give", "end", "task", "every", "within", "if", "else",
    "loop", "to", "while", "read", "write", "interrupt", "calls", "mod", "and", "or",
)
# Longer signs stand ahead of shorter ones, so that the first match is the longest.
SIGNS = (
    "~<=",
    ":=", "<<", ">>", "<=", "~<", "==", "!=",
    ",", ";", ".", "(", ")", "[", "]", "+", "-", "*", "/", "&", "|", "^", "~", "!", "<",
)
LETTERS = "abcdefghijklmnopqrstuvwxyzABCDEFGHIJKLMNOPQRSTUVWXYZ"
DIGITS = "0123456789"
HEX_DIGITS = "0123456789abcdef"
LONGEST_NAME = 16
LONGEST_DECIMAL = 10
LONGEST_HEX = 8


def is_reserved(name):
    """Whether a name is a reserved word."""
    return name in RESERVED


def spell(tokens):
    """The values of the tokens except the last one, with one space between them."""
    return " ".join([_spelled(value) for _, value, _ in tokens[:-1]])


def _spelled(value):
    return decimal(value) if isinstance(value, int) else value


def tokenize(text):
    """The list of the tokens of a text."""
    tokens = []
    line = 1
    at = 0
    while at < len(text):
        character = text[at]
        if character == "\n":
            line += 1
            at += 1
        elif character == " ":
            at += 1
        elif character == "#":
            at = _comment_end(text, at)
        elif character in LETTERS or character in DIGITS:
            run = _run(text, at)
            tokens.append(_run_token(run, line))
            at += len(run)
        else:
            sign = _longest_sign(text, at)
            if sign == "":
                raise TextError(line)
            tokens.append(("sign", sign, line))
            at += len(sign)
    tokens.append(("end", "", line))
    return tokens


def _comment_end(text, at):
    end = text.find("\n", at)
    if end < 0:
        return len(text)
    return end


def _run(text, at):
    """The letters, digits and underscores from a position on."""
    end = at
    while end < len(text) and _in_run(text[end]):
        end += 1
    return text[at:end]


def _in_run(character):
    return character in LETTERS or character in DIGITS or character == "_"


def _run_token(run, line):
    if run[0] in DIGITS:
        value = _number(run)
        if value is None:
            raise TextError(line)
        return ("number", value, line)
    if len(run) > LONGEST_NAME:
        raise TextError(line)
    if is_reserved(run):
        return ("word", run, line)
    return ("name", run, line)


def _number(run):
    """The value of a run that starts with a digit, or None if it is not a number."""
    if run.startswith("0x"):
        return _hex_number(run[2:])
    return decimal_number(run)


def decimal_number(run):
    """The value of a decimal number, or None if a run of characters is not one."""
    # Python itself refuses to convert very long runs, so their length is asked first.
    if len(run) > LONGEST_DECIMAL or not _consists_of(run, DIGITS):
        return None
    if run[0] == "0" and run != "0":
        return None
    value = int(run)
    if value > GREATEST_WORD:
        return None
    return value


def _hex_number(digits):
    if digits == "" or len(digits) > LONGEST_HEX or not _consists_of(digits, HEX_DIGITS):
        return None
    return int(digits, 16)


def _consists_of(run, allowed):
    return all([character in allowed for character in run])


def _longest_sign(text, at):
    """The longest sign at a position, or an empty string if there is none."""
    for sign in SIGNS:
        if text.startswith(sign, at):
            return sign
    return ""
