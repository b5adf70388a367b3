"""Points 12.1 to 12.4, with 0.9 and 0.17: the code of expressions."""

import random
import unittest

from deadbeat.cpu import Costs
from deadbeat.exprs import depth, expression_code, word_code
from deadbeat.trees import size
from tests.machine import Lines, Machine
from tests.oracle import value
from tests.programs import EDGE_WORDS, at, cell, num
from tests.purity import check_pure
from tests.samples import OPERATORS, UNARY, Maker, chain

NAMES = {"x": (4, 0), "y": (16383, 0), "v": (8, 3), "w": (100, 64), "u": (5, 1)}
CALC = {
    "+": "add", "-": "sub", "*": "mul", "/": "div", "mod": "mod", "&": "and", "|": "or", "^": "xor", "<<": "shl",
    ">>": "shr", "<": "ult", "<=": "ule", "~<": "slt", "~<=": "sle", "==": "eq", "!=": "ne",
}


def naive_depth(e):
    return 1 + max([naive_depth(part) for part in e if isinstance(part, tuple)], default=0)


def execute(code, registers, data):
    """Executes code with registers and data. Returns the machine."""
    machine = Machine(Costs(), code, Lines((1, 1, 1)), Lines((1, 1, 1)))
    machine.registers = list(registers)
    machine.data = list(data)
    for _ in code:
        machine.step()
    return machine


class DepthTest(unittest.TestCase):
    def test_each_kind(self):
        self.assertEqual(depth(num(5)), 1)
        self.assertEqual(depth(cell("x")), 1)
        self.assertEqual(depth(at("v", num(1))), 2)
        for operator in UNARY:
            self.assertEqual(depth((operator, cell("x"))), 2)
        for operator in OPERATORS:
            self.assertEqual(depth((operator, num(1), cell("x"))), 2)

    def test_the_deeper_side_counts(self):
        three = ("neg", at("v", num(1)))
        for e, deep in ((("+", three, num(1)), 4), (("+", num(1), three), 4), (("+", three, three), 4),
                        (at("v", ("and", num(1), three)), 5), (("not", ("or", three, ("inv", three))), 6)):
            self.assertEqual(depth(e), deep)

    def test_random(self):
        for seed in range(200):
            e = Maker(seed).expression(7)
            self.assertEqual(depth(e), naive_depth(e))

    def test_long_chain(self):
        self.assertEqual(depth(chain("+", 3000)), 3000)

    def test_arguments_stay(self):
        check_pure(self, depth, ("+", at("v", num(1)), num(2)))


class WordCodeTest(unittest.TestCase):
    def test_document_examples(self):
        self.assertEqual(word_code(1, 4294967295), [("set", 1, -1)])
        self.assertEqual(word_code(2, 100000), [("set", 2, -31072), ("high", 2, 1)])

    def test_edges(self):
        for w, rows in (
            (0, [("set", 3, 0)]),
            (1, [("set", 3, 1)]),
            (32767, [("set", 3, 32767)]),
            (32768, [("set", 3, -32768), ("high", 3, 0)]),
            (32769, [("set", 3, -32767), ("high", 3, 0)]),
            (65535, [("set", 3, -1), ("high", 3, 0)]),
            (65536, [("set", 3, 0), ("high", 3, 1)]),
            (98303, [("set", 3, 32767), ("high", 3, 1)]),
            (98304, [("set", 3, -32768), ("high", 3, 1)]),
            (2147483647, [("set", 3, -1), ("high", 3, 32767)]),
            (2147483648, [("set", 3, 0), ("high", 3, 32768)]),
            (4294901760, [("set", 3, 0), ("high", 3, 65535)]),
            (4294934527, [("set", 3, 32767), ("high", 3, 65535)]),
            (4294934528, [("set", 3, -32768)]),
            (4294934529, [("set", 3, -32767)]),
            (4294967294, [("set", 3, -2)]),
            (4294967295, [("set", 3, -1)]),
        ):
            self.assertEqual(word_code(3, w), rows, w)
            self.assertEqual(execute(rows, [0] * 9, [0]).registers[3], w)

    def test_registers(self):
        for r in range(1, 8):
            self.assertEqual(word_code(r, 7), [("set", r, 7)])
            self.assertEqual(word_code(r, 65536), [("set", r, 0), ("high", r, 1)])

    def test_results_are_new(self):
        check_pure(self, word_code, 1, 7)
        check_pure(self, word_code, 1, 65536)


class ExpressionCodeTest(unittest.TestCase):
    def test_document_example(self):
        e = ("+", ("at", "v", ("cell", "x")), ("num", 1))
        self.assertEqual(expression_code({"v": (8, 3), "x": (4, 0)}, e, 1),
                         [("load", 1, 4), ("loadx", 1, 1, 8, 3), ("set", 2, 1), ("calc", "add", 1, 1, 2)])

    def test_leaves(self):
        for r in range(1, 8):
            self.assertEqual(expression_code(NAMES, num(7), r), [("set", r, 7)])
            self.assertEqual(expression_code(NAMES, num(65537), r), [("set", r, 1), ("high", r, 1)])
            self.assertEqual(expression_code(NAMES, cell("x"), r), [("load", r, 4)])
            self.assertEqual(expression_code(NAMES, cell("y"), r), [("load", r, 16383)])

    def test_array_cells(self):
        for name in ("v", "w", "u"):
            address, many = NAMES[name]
            self.assertEqual(expression_code(NAMES, at(name, num(2)), 3), [("set", 3, 2), ("loadx", 3, 3, address, many)])

    def test_unary(self):
        load = ("load", 2, 4)
        self.assertEqual(expression_code(NAMES, ("neg", cell("x")), 2), [load, ("calc", "sub", 2, 0, 2)])
        self.assertEqual(expression_code(NAMES, ("inv", cell("x")), 2), [load, ("calc", "nor", 2, 2, 0)])
        self.assertEqual(expression_code(NAMES, ("not", cell("x")), 2), [load, ("calc", "eq", 2, 2, 0)])

    def test_binary(self):
        for operator, k in CALC.items():
            for r in (1, 6):
                self.assertEqual(expression_code(NAMES, (operator, cell("x"), num(9)), r),
                                 [("load", r, 4), ("set", r + 1, 9), ("calc", k, r, r, r + 1)])
        self.assertEqual(set(CALC) | {"and", "or"}, set(OPERATORS))

    def test_and(self):
        self.assertEqual(expression_code(NAMES, ("and", cell("x"), num(9)), 3), [
            ("load", 3, 4), ("calc", "ne", 3, 3, 0), ("set", 4, 9), ("calc", "ne", 4, 4, 0), ("calc", "and", 3, 3, 4)])

    def test_or(self):
        self.assertEqual(expression_code(NAMES, ("or", cell("x"), num(9)), 3), [
            ("load", 3, 4), ("set", 4, 9), ("calc", "or", 3, 3, 4), ("calc", "ne", 3, 3, 0)])

    def test_nested(self):
        e = ("-", ("neg", at("v", ("+", cell("x"), num(1)))), ("*", num(2), cell("y")))
        self.assertEqual(expression_code(NAMES, e, 2), [
            ("load", 2, 4), ("set", 3, 1), ("calc", "add", 2, 2, 3), ("loadx", 2, 2, 8, 3), ("calc", "sub", 2, 0, 2),
            ("set", 3, 2), ("load", 4, 16383), ("calc", "mul", 3, 3, 4), ("calc", "sub", 2, 2, 3)])

    def test_operands_of_and_and_or_are_both_evaluated(self):
        for operator in ("and", "or"):
            for a in (0, 1):
                code = expression_code(NAMES, (operator, num(a), cell("x")), 1)
                self.assertIn(("load", 2, 4), code)
                self.assertFalse([row for row in code if row[0] in ("jump", "jzero")])

    def test_every_operator_gives_its_value(self):
        for operator in OPERATORS:
            for a in EDGE_WORDS:
                for b in EDGE_WORDS:
                    e = (operator, num(a), num(b))
                    self.assertEqual(execute(expression_code({}, e, 1), [0] * 9, []).registers[1], value(e, {}), e)
        for operator in UNARY:
            for a in EDGE_WORDS:
                e = (operator, num(a))
                self.assertEqual(execute(expression_code({}, e, 7 - 1), [0] * 9, []).registers[6], value(e, {}), e)

    def deep(self, chance, many):
        """An expression of exactly this depth."""
        if many == 1:
            return chance.choice([num(chance.choice(EDGE_WORDS)), cell(chance.choice("xy"))])
        kind = chance.choice(["at", "at", "one", "two", "two", "two"])
        if kind == "at":
            return at(chance.choice("vwu"), self.deep(chance, many - 1))
        if kind == "one":
            return (chance.choice(UNARY), self.deep(chance, many - 1))
        pair = [self.deep(chance, many - 1), self.deep(chance, chance.randrange(1, many))]
        chance.shuffle(pair)
        return (chance.choice(OPERATORS), *pair)

    def test_random(self):
        """Each depth from 1 to 6, also at the greatest register that fits."""
        for seed in range(600):
            chance = random.Random(seed)
            many = chance.randrange(1, 7)
            e = self.deep(chance, many)
            self.assertEqual(depth(e), many)
            for r in (1, 8 - many):
                code = expression_code(NAMES, e, r)
                registers = [0] + [chance.choice(EDGE_WORDS) for _ in range(8)]
                data = [0] * 16384
                for name, (address, cells) in NAMES.items():
                    for number in range(cells or 1):
                        data[address + number] = chance.choice(EDGE_WORDS)
                words = {name: data[address:address + (cells or 1)] for name, (address, cells) in NAMES.items()}
                machine = execute(code, registers, data)
                self.assertEqual(machine.registers[r], value(e, words))
                self.assertEqual((machine.registers[:r], machine.registers[r + many:]), (registers[:r], registers[r + many:]))
                self.assertEqual((machine.data, machine.counters, machine.outputs), (data, [0] * 256, [[]] * 8))
                self.assertEqual(machine.at, len(code))
                self.check_length(e, code)

    def check_length(self, e, code):
        kinds = [part[0] for part in self.parts(e)]
        self.assertLessEqual(len(code), 2 * size(e) + 2 * kinds.count("and") + kinds.count("or"))
        self.assertFalse({row[0] for row in code} - {"set", "high", "load", "loadx", "calc"})

    def parts(self, e):
        return [e] + [inner for part in e if isinstance(part, tuple) for inner in self.parts(part)]

    def test_arguments_stay(self):
        e = ("and", ("or", at("v", cell("x")), num(70000)), ("not", cell("y")))
        check_pure(self, expression_code, dict(NAMES), e, 1)
        for leaf in (num(1), cell("x"), at("v", num(1)), ("neg", num(1)), ("+", num(1), num(2))):
            check_pure(self, expression_code, dict(NAMES), leaf, 2)
