import unittest

from deadbeat.words import alter, combine, signed, wrap
from tests.samples import OPERATORS

EDGES = [0, 1, 2, 3, 7, 31, 32, 33, 255, 65535, 65536, 2147483647, 2147483648, 2147483649, 4294967294, 4294967295]
PAIRS = [(a, b) for a in EDGES for b in EDGES]


def as_signed(w):
    return int.from_bytes(w.to_bytes(4, "big"), "big", signed=True)


class WrapTest(unittest.TestCase):
    def test_inside(self):
        for w in EDGES:
            self.assertEqual(wrap(w), w)

    def test_outside(self):
        self.assertEqual(wrap(4294967296), 0)
        self.assertEqual(wrap(4294967297), 1)
        self.assertEqual(wrap(-1), 4294967295)
        self.assertEqual(wrap(-4294967295), 1)
        self.assertEqual(wrap(-4294967296), 0)
        self.assertEqual(wrap(-4294967297), 4294967295)

    def test_any_size(self):
        self.assertEqual(wrap(2 ** 1000 + 5), 5)
        self.assertEqual(wrap(-(2 ** 1000) - 5), 4294967291)


class SignedTest(unittest.TestCase):
    def test_edges(self):
        self.assertEqual(signed(0), 0)
        self.assertEqual(signed(2147483647), 2147483647)
        self.assertEqual(signed(2147483648), -2147483648)
        self.assertEqual(signed(4294967295), -1)

    def test_others(self):
        for w in EDGES:
            self.assertEqual(signed(w), as_signed(w))


class CombineTest(unittest.TestCase):
    def check(self, operator, expected):
        for a, b in PAIRS:
            self.assertEqual(combine(operator, a, b), expected(a, b), (operator, a, b))

    def test_document_examples(self):
        self.assertEqual(combine("mod", 7, 0), 7)
        self.assertEqual(combine("~<", 4294967295, 1), 1)

    def test_arithmetic_examples(self):
        self.assertEqual(combine("+", 4294967295, 1), 0)
        self.assertEqual(combine("-", 0, 1), 4294967295)
        self.assertEqual(combine("*", 65536, 65536), 0)
        self.assertEqual(combine("*", 4294967295, 4294967295), 1)
        self.assertEqual(combine("/", 4294967295, 2), 2147483647)
        self.assertEqual(combine("mod", 4294967295, 10), 5)

    def test_arithmetic(self):
        self.check("+", lambda a, b: (a + b) % 2 ** 32)
        self.check("-", lambda a, b: (a - b) % 2 ** 32)
        self.check("*", lambda a, b: (a * b) % 2 ** 32)

    def test_division(self):
        for a, b in PAIRS:
            quotient, remainder = combine("/", a, b), combine("mod", a, b)
            if b == 0:
                self.assertEqual((quotient, remainder), (0, a))
            else:
                self.assertEqual(quotient * b + remainder, a)
                self.assertTrue(0 <= remainder < b)

    def test_bits(self):
        for operator, rule in (("&", lambda x, y: x == y == "1"), ("|", lambda x, y: "1" in (x, y)),
                               ("^", lambda x, y: x != y)):
            for a, b in PAIRS:
                bits = ["1" if rule(x, y) else "0" for x, y in zip(f"{a:032b}", f"{b:032b}")]
                self.assertEqual(combine(operator, a, b), int("".join(bits), 2), (operator, a, b))

    def test_shift_examples(self):
        for by, left, right in ((0, 2147483649, 2147483649), (1, 2, 1073741824), (31, 2147483648, 1),
                                (32, 2147483649, 2147483649), (33, 2, 1073741824)):
            self.assertEqual(combine("<<", 2147483649, by), left)
            self.assertEqual(combine(">>", 2147483649, by), right)
        self.assertEqual(combine("<<", 3, 4294967295), 2147483648)
        self.assertEqual(combine(">>", 3221225472, 4294967295), 1)
        self.assertEqual(combine("<<", 3, 4294967264), 3)
        self.assertEqual(combine(">>", 3, 4294967264), 3)

    def test_shifts(self):
        self.check("<<", lambda a, b: a * 2 ** (b % 32) % 2 ** 32)
        self.check(">>", lambda a, b: a // 2 ** (b % 32))

    def test_unsigned_comparisons(self):
        self.check("<", lambda a, b: [0, 1][a < b])
        self.check("<=", lambda a, b: [0, 1][a <= b])
        self.check("==", lambda a, b: [0, 1][a == b])
        self.check("!=", lambda a, b: [0, 1][a != b])

    def test_signed_comparisons(self):
        self.check("~<", lambda a, b: [0, 1][as_signed(a) < as_signed(b)])
        self.check("~<=", lambda a, b: [0, 1][as_signed(a) <= as_signed(b)])

    def test_both_sides_of_the_sign_bit(self):
        self.assertEqual(combine("<", 2147483647, 2147483648), 1)
        self.assertEqual(combine("~<", 2147483647, 2147483648), 0)
        self.assertEqual(combine("~<", 2147483648, 2147483647), 1)
        self.assertEqual(combine("~<=", 2147483648, 2147483648), 1)
        self.assertEqual(combine("~<", 2147483648, 2147483648), 0)

    def test_logic(self):
        self.check("and", lambda a, b: 0 if 0 in (a, b) else 1)
        self.check("or", lambda a, b: 0 if (a, b) == (0, 0) else 1)

    def test_results_are_words(self):
        for operator in OPERATORS:
            for a, b in PAIRS:
                result = combine(operator, a, b)
                self.assertIs(type(result), int)
                self.assertTrue(0 <= result < 2 ** 32)


class AlterTest(unittest.TestCase):
    def test_neg(self):
        self.assertEqual(alter("neg", 0), 0)
        self.assertEqual(alter("neg", 1), 4294967295)
        self.assertEqual(alter("neg", 2147483648), 2147483648)
        self.assertEqual(alter("neg", 4294967295), 1)

    def test_inv(self):
        self.assertEqual(alter("inv", 0), 4294967295)
        self.assertEqual(alter("inv", 4294967295), 0)
        self.assertEqual(alter("inv", 1), 4294967294)
        self.assertEqual(alter("inv", 2147483648), 2147483647)

    def test_not(self):
        self.assertEqual(alter("not", 0), 1)
        for w in EDGES[1:]:
            self.assertEqual(alter("not", w), 0)

    def test_results_are_words(self):
        for operator in ("neg", "inv", "not"):
            for a in EDGES:
                result = alter(operator, a)
                self.assertIs(type(result), int)
                self.assertTrue(0 <= result < 2 ** 32)
