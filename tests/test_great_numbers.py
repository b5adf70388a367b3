"""Integers of so many digits that Python itself refuses to write them in decimal: no error depends on the digits."""

import sys
import unittest

from deadbeat.caches import Cache
from deadbeat.codes import decode, encode, is_instruction
from deadbeat.cpu import Board, Core, Costs, step
from deadbeat.errors import (
    BoundError, CodeError, CommandError, DeadbeatError, MixError, PlanError, RuleError, TextError,
)
from deadbeat.graphs import graph
from deadbeat.mixing import follow
from deadbeat.parsing import parse_expression
from deadbeat.rules import check
from deadbeat.tokens import spell, tokenize
from deadbeat.trees import write_expression, write_program
from deadbeat.words import alter, combine, signed, wrap
from tests.programs import system, task
from tests.samples import full_program

GREAT = [sign * n for sign in (1, -1) for n in (10 ** 639, 10 ** 640, 10 ** 4299, 10 ** 4300, 10 ** 5000, 1 << 20000)]


class LimitTest(unittest.TestCase):
    def test_least_limit_of_python(self):
        before = sys.get_int_max_str_digits()
        sys.set_int_max_str_digits(640)
        try:
            for n in GREAT:
                with self.assertRaises(CodeError):
                    decode(n)
                self.assertEqual(PlanError(n).at, n)
                spell([("number", abs(n), 1), ("end", "", 1)])
        finally:
            sys.set_int_max_str_digits(before)


class ErrorsTest(unittest.TestCase):
    def test_integers(self):
        for kind in (CodeError, BoundError, PlanError, MixError):
            for n in GREAT:
                error = kind(n)
                self.assertEqual(error.at, n)
                self.assertIsInstance(error, DeadbeatError)
                self.assertIsInstance(str(error), str)

    def test_lines(self):
        for kind in (TextError, CommandError):
            for n in GREAT:
                self.assertEqual(kind(n).line, n)

    def test_rule(self):
        self.assertEqual(RuleError("x" * 9000).rule, "x" * 9000)


class FunctionsTest(unittest.TestCase):
    def test_decode(self):
        for n in GREAT + [10 ** 4299 + 1, (1 << 20000) + encode(("set", 2, -1)), -(1 << 20000) + encode(("done",))]:
            with self.assertRaises(CodeError) as caught:
                decode(n)
            self.assertIs(type(caught.exception.at), int)

    def test_instructions(self):
        for n in GREAT:
            for item in (("set", n, 0), ("set", 0, n), ("jump", n), ("loadx", 1, 1, n, -n), ("count", 0, n), ("in", 1, n)):
                self.assertIs(is_instruction(item), False)
                with self.assertRaises(CodeError):
                    encode(item)

    def test_caches(self):
        for n in GREAT:
            for sizes in ((n, 1, 1), (1, n, 1), (1, 1, n)):
                with self.assertRaises(PlanError):
                    Cache(*sizes)
            with self.assertRaises(PlanError):
                Cache(1, 2, 1).fill([[n]])

    def test_costs(self):
        for n in GREAT:
            for name in ("fetch_hit", "plain", "load_miss", "release", "finish"):
                with self.assertRaises(PlanError):
                    Costs(**{name: n})

    def test_addresses(self):
        for n in GREAT:
            core, board = Core(n), Board(Cache(1, 1, 1), Cache(1, 1, 1), [])
            self.assertEqual(step(Costs(), [("done",)], core, board), (0, None))
            for code in ([("jump", n), ("done",)], [("jzero", 1, n), ("done",)], [("link", n), ("done",)]):
                with self.assertRaises(CodeError):
                    graph(code, 0)
            with self.assertRaises(CodeError) as caught:
                graph([("done",)], n)
            self.assertEqual(caught.exception.at, n)

    def test_rules(self):
        for n in GREAT:
            for program in (
                system(tasks=[task(every=n)]),
                system(tasks=[task(within=n)]),
                system(tasks=[task(cells=[("a", n)])]),
                system(tasks=[task(body=[("loop", "i", n, None, [])])]),
            ):
                with self.assertRaises(RuleError) as caught:
                    check(program)
                self.assertEqual(caught.exception.rule, "size")

    def test_records(self):
        program = system(ports=[("in", "p"), ("out", "q")], tasks=[task(body=[("write", "q", ("num", 1))])])
        for n in GREAT:
            for entry in ((n, "done"), (0, "write", n, 1), (0, "write", 0, n), (0, "read", n, n), (0, "call", n, n, [n], n)):
                with self.assertRaises(MixError) as caught:
                    follow(program, [0], [[]], [entry])
                self.assertEqual(caught.exception.at, 0)

    def test_texts(self):
        for text in ("9" * 5000, "0x" + "f" * 5000, "1" + "0" * 4300):
            with self.assertRaises(TextError):
                tokenize(text)
            with self.assertRaises(TextError):
                parse_expression(text)

    def test_written_forms(self):
        for many in (17, 18, 19, 4299, 4300, 5000):
            n, digits = 10 ** many, "1" + "0" * many
            self.assertEqual(spell([("number", n, 1), ("sign", "+", 1), ("end", "", 1)]), digits + " +")
            self.assertEqual(write_expression(("neg", ("num", n))), "-" + digits)
            name, ports, objects, tasks, _ = full_program()[1:]
            body = [("loop", "i", n, None, [])]
            written = write_program(("system", name, ports, objects, [("task", "t", n, n, [("a", n)], body)],
                                     [("interrupt", "k", n, n, "box", "put", [n])]))
            self.assertIn(f"task t every {digits} within {digits}\n", written)
            self.assertIn(f"  cell a[{digits}]\n", written)
            self.assertIn(f"  loop i to {digits}\n", written)
            self.assertIn(f"interrupt k every {digits} within {digits} calls box.put({digits})\n", written)

    def test_digits(self):
        for n in (0, 1, 9, 10, 4294967295, 10 ** 17, 10 ** 18 - 1, 10 ** 18 + 7, 10 ** 36, 3 * 10 ** 40 + 5, 7 * 10 ** 639):
            self.assertEqual(spell([("number", n, 1), ("end", "", 1)]), str(n))
            self.assertEqual(write_expression(("num", n)), str(n))
        self.assertEqual(write_expression(("num", 10 ** 5000 - 1)), "9" * 5000)
        self.assertEqual(write_expression(("num", 10 ** 9000 + 12)), "1" + "0" * 8998 + "12")

    def test_words(self):
        for n in GREAT:
            self.assertEqual(wrap(n), n % 2 ** 32)
            self.assertEqual(signed(wrap(n)) % 2 ** 32, n % 2 ** 32)
            self.assertEqual(combine("+", wrap(n), 1), (n + 1) % 2 ** 32)
            self.assertEqual(alter("neg", wrap(n)), -n % 2 ** 32)
