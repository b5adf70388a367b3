"""The code of expressions."""

from deadbeat.codes import GREATEST_SIGNED, OPERATORS, SIGNED_VALUES
from deadbeat.trees import parts
from deadbeat.words import signed


def depth(e):
    """How deep an expression is."""
    depths = []
    for part in parts(e):
        if part[0] == "num" or part[0] == "cell":
            depths.append(1)
        elif part[0] == "at" or len(part) == 2:
            depths.append(depths.pop() + 1)
        else:
            depths.append(max(depths.pop(), depths.pop()) + 1)
    return depths[0]


def word_code(r, w):
    """The one or two instructions that put a word into a register."""
    low = w % SIGNED_VALUES
    if low > GREATEST_SIGNED:
        low = low - SIGNED_VALUES
    if low == signed(w):
        return [("set", r, low)]
    return [("set", r, low), ("high", r, w // SIGNED_VALUES)]


def expression_code(names, e, r):
    """The instructions that leave the value of an expression in a register."""
    match e:
        case ("num", w):
            return word_code(r, w)
        case ("cell", name):
            return [("load", r, names[name][0])]
        case ("at", name, index):
            return expression_code(names, index, r) + [("loadx", r, r, names[name][0], names[name][1])]
        case (operator, a):
            return expression_code(names, a, r) + [_alteration(operator, r)]
        case ("and", a, b):
            left = expression_code(names, a, r) + [("calc", "ne", r, r, 0)]
            right = expression_code(names, b, r + 1) + [("calc", "ne", r + 1, r + 1, 0)]
            return left + right + [("calc", "and", r, r, r + 1)]
        case ("or", a, b):
            both = expression_code(names, a, r) + expression_code(names, b, r + 1)
            return both + [("calc", "or", r, r, r + 1), ("calc", "ne", r, r, 0)]
        case (operator, a, b):
            both = expression_code(names, a, r) + expression_code(names, b, r + 1)
            return both + [("calc", _calculation(operator), r, r, r + 1)]


def _alteration(operator, r):
    """The instruction of a unary operator."""
    match operator:
        case "neg":
            return ("calc", "sub", r, 0, r)
        case "inv":
            return ("calc", "nor", r, r, 0)
        case "not":
            return ("calc", "eq", r, r, 0)


def _calculation(operator):
    """The name in "calc" that stands for an operator."""
    for name, sign in OPERATORS.items():
        if sign == operator:
            return name
