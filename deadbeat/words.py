"""Words of 32 bits and the operators on them."""

WORDS = 4294967296
GREATEST_WORD = 4294967295
SIGN_BIT = 2147483648
PIECE_DIGITS = 18
PIECE = 1000000000000000000


def wrap(n):
    """An integer modulo 2 to the power of 32."""
    return n % WORDS


def signed(w):
    """The signed value of a word."""
    if w < SIGN_BIT:
        return w
    return w - WORDS


def decimal(n):
    """An integer in decimal.

    Python itself refuses to write an integer of some thousands of digits, so a few digits are written at a time.
    """
    pieces = []
    rest = abs(n)
    while rest >= PIECE:
        rest, low = divmod(rest, PIECE)
        pieces.append(str(low).zfill(PIECE_DIGITS))
    pieces.append(str(rest))
    if n < 0:
        pieces.append("-")
    return "".join(pieces[::-1])


def combine(operator, a, b):
    """The word that a binary operator gives for two words."""
    match operator:
        case "+":
            return wrap(a + b)
        case "-":
            return wrap(a - b)
        case "*":
            return wrap(a * b)
        case "/":
            return 0 if b == 0 else a // b
        case "mod":
            return a if b == 0 else a % b
        case "&":
            return a & b
        case "|":
            return a | b
        case "^":
            return a ^ b
        case "<<":
            return wrap(a << (b % 32))
        case ">>":
            return a >> (b % 32)
        case _:
            return 1 if _holds(operator, a, b) else 0


def _holds(operator, a, b):
    match operator:
        case "<":
            return a < b
        case "<=":
            return a <= b
        case "~<":
            return signed(a) < signed(b)
        case "~<=":
            return signed(a) <= signed(b)
        case "==":
            return a == b
        case "!=":
            return a != b
        case "and":
            return a != 0 and b != 0
        case "or":
            return a != 0 or b != 0


def alter(operator, a):
    """The word that a unary operator gives for a word."""
    match operator:
        case "neg":
            return wrap(-a)
        case "inv":
            return a ^ GREATEST_WORD
        case "not":
            return 1 if a == 0 else 0
