"""Instructions and their code words."""

from deadbeat.errors import CodeError

# The first name has the opcode 1.
NAMES = (
    "set", "high", "calc", "load", "store", "loadx", "storex", "jump", "jzero", "count", "again", "link", "back",
    "done", "enter", "leave", "in", "out",
)
CALCULATIONS = (
    "add", "sub", "mul", "div", "mod", "and", "or", "xor", "shl", "shr", "ult", "ule", "slt", "sle", "eq", "ne", "nor",
)
# The operators for which the operations of "calc" stand.
OPERATORS = {
    "add": "+", "sub": "-", "mul": "*", "div": "/", "mod": "mod", "and": "&", "or": "|", "xor": "^", "shl": "<<",
    "shr": ">>", "ult": "<", "ule": "<=", "slt": "~<", "sle": "~<=", "eq": "==", "ne": "!=",
}
# The parts of each instruction behind its name.
FORMS = {
    "set": ("r", "signed"),
    "high": ("r", "upper"),
    "calc": ("k", "r", "s", "t"),
    "load": ("r", "a"),
    "store": ("r", "a"),
    "loadx": ("r", "s", "a", "cells"),
    "storex": ("r", "s", "a", "cells"),
    "jump": ("p",),
    "jzero": ("r", "p"),
    "count": ("c", "rounds"),
    "again": ("c", "p"),
    "link": ("p",),
    "back": (),
    "done": (),
    "enter": ("o",),
    "leave": ("o",),
    "in": ("r", "q"),
    "out": ("r", "q"),
}
# The least and the greatest value of each part.
RANGES = {
    "r": (0, 8), "s": (0, 8), "t": (0, 8), "signed": (-32768, 32767), "upper": (0, 65535), "a": (0, 16383),
    "cells": (1, 64), "c": (0, 255), "rounds": (1, 64), "p": (0, 4095), "o": (0, 3), "q": (0, 7),
}
# The lowest bit of each part in the code word, and the number of its bits.
BITS = {
    "r": (26, 4), "s": (22, 4), "t": (18, 4), "k": (13, 5), "signed": (0, 16), "upper": (0, 16), "a": (0, 14),
    "cells": (14, 6), "c": (22, 8), "rounds": (0, 6), "p": (0, 12), "o": (0, 4), "q": (0, 4),
}
OPCODE_BIT = 30
DATA_WORDS = 16384
SIGNED_VALUES = 65536
GREATEST_SIGNED = 32767


def is_instruction(item):
    """Whether a tuple of strings and integers is an instruction."""
    if len(item) == 0 or item[0] not in FORMS:
        return False
    form = FORMS[item[0]]
    if len(item) != len(form) + 1:
        return False
    if not all([_in_range(part, value) for part, value in zip(form, item[1:])]):
        return False
    return "cells" not in form or item[3] + item[4] <= DATA_WORDS


def _in_range(part, value):
    if part == "k":
        return value in CALCULATIONS
    low, high = RANGES[part]
    return isinstance(value, int) and low <= value <= high


def encode(instruction):
    """The code word of an instruction."""
    if not is_instruction(instruction):
        raise CodeError(0)
    word = (NAMES.index(instruction[0]) + 1) << OPCODE_BIT
    for part, value in zip(FORMS[instruction[0]], instruction[1:]):
        lowest, _ = BITS[part]
        word += _packed(part, value) << lowest
    return word


def decode(word):
    """The instruction that has a code word."""
    opcode = word >> OPCODE_BIT
    if not 1 <= opcode <= len(NAMES):
        raise CodeError(word)
    name = NAMES[opcode - 1]
    instruction = tuple([name] + [_part_of(word, part) for part in FORMS[name]])
    # Parts out of range are refused here, and bits that must be 0, since an instruction has one code word only.
    if encode(instruction) != word:
        raise CodeError(word)
    return instruction


def _part_of(word, part):
    """The value of a part in a code word, which may be out of its range."""
    lowest, many = BITS[part]
    return _unpacked(part, (word >> lowest) & ((1 << many) - 1))


def _packed(part, value):
    """The number that stands for the value of a part in a code word."""
    if part == "k":
        return CALCULATIONS.index(value)
    if part == "signed":
        return value & (SIGNED_VALUES - 1)
    if part == "cells" or part == "rounds":
        return value - 1
    return value


def _unpacked(part, number):
    """The value of a part for which a number stands in a code word."""
    if part == "k":
        return CALCULATIONS[number] if number < len(CALCULATIONS) else ""
    if part == "signed" and number > GREATEST_SIGNED:
        return number - SIGNED_VALUES
    if part == "cells" or part == "rounds":
        return number + 1
    return number
