import copy
import unittest

from deadbeat.parsing import parse_expression
from deadbeat.trees import depth, parts, size, statements, write_expression, write_program
from tests.samples import FULL_TEXT, GROUPS, OPERATORS, UNARY, Maker, chain, full_program

A, B, C = ("cell", "a"), ("cell", "b"), ("cell", "c")
SIGN_OF = {"neg": "-", "inv": "~", "not": "!"}


def group(operator):
    return [operator in row for row in GROUPS].index(True)


def task_program(body, cells=()):
    return ("system", "s", [], [], [("task", "t", 9, 8, list(cells), body)], [])


def task_text(rows):
    """The written form of a program with one task, whose rows inside the task are given."""
    return "\n".join(["system s", "task t every 9 within 8"] + ["  " + row for row in rows] + ["end"]) + "\n"


class MeasureTest(unittest.TestCase):
    def check(self, e, deep, many):
        self.assertEqual((depth(e), size(e)), (deep, many))

    def test_leaves(self):
        self.check(("num", 0), 1, 1)
        self.check(("num", 4294967295), 1, 1)
        self.check(A, 1, 1)

    def test_one_operand(self):
        self.check(("at", "a", ("num", 1)), 2, 2)
        for kind in UNARY:
            self.check((kind, A), 2, 2)
            self.check((kind, (kind, ("at", "a", B))), 4, 4)

    def test_two_operands(self):
        for operator in OPERATORS:
            self.check((operator, A, ("num", 2)), 2, 3)
            self.check((operator, ("neg", A), B), 3, 4)
            self.check((operator, A, ("at", "b", ("inv", C))), 4, 5)
            self.check((operator, (operator, A, B), (operator, A, ("not", B))), 4, 8)

    def test_longer_chains_than_the_limits(self):
        e = chain("+", 5000)
        self.check(e, 5000, 9999)
        self.assertEqual(write_expression(e), " + ".join(["a"] * 5000))
        for _ in range(5000):
            e = ("neg", e)
        self.assertEqual(depth(e), 10000)


class PartsTest(unittest.TestCase):
    def test_order_of_evaluation(self):
        self.assertEqual(parts(A), [A])
        left, right = ("neg", A), ("at", "b", C)
        self.assertEqual(parts(("-", left, right)), [A, left, C, right, ("-", left, right)])

    def test_number_of_parts(self):
        self.assertEqual(len(parts(chain("+", 5000))), 9999)
        for seed in range(50):
            e = Maker(seed).expression(6)
            self.assertEqual(len(parts(e)), size(e))


class StatementsTest(unittest.TestCase):
    def test_nothing(self):
        self.assertEqual(statements([]), [])

    def test_every_kind(self):
        body = full_program()[4][0][5]
        read = body[2][2][0][4]
        self.assertEqual(statements(body), [
            body[0], body[1], body[2], body[2][2][0], read[0], read[1], read[2], body[3], body[3][3][0], body[4],
            body[4][2][0], body[4][3][0], body[5], body[6], body[7], body[8],
        ])

    def test_nested(self):
        one, two, three, four = [("write", "p", ("num", n)) for n in range(4)]
        loop = ("loop", "i", 3, None, [one, two])
        inner = ("if", A, [loop], [three])
        outer = ("if", B, [four], [inner, four])
        self.assertEqual(statements([outer, one]), [outer, four, inner, loop, one, two, three, four, one])

    def test_then_ahead_of_other(self):
        one, two = ("read", A, "p"), ("read", A, "q")
        self.assertEqual(statements([("if", A, [one], [two])])[1:], [one, two])
        self.assertEqual(statements([("if", A, [], [two])])[1:], [two])

    def test_shares_no_list(self):
        def body():
            call = ("call", None, "o", "f", [A])
            return [("if", A, [call], [("loop", "i", 2, None, [call])]), call]

        given = body()
        found = statements(given)
        expected = copy.deepcopy(found)
        self.assertEqual(given, body())
        self.spoil(found)
        self.assertEqual(given, body())
        self.assertEqual(statements(given), expected)

    def spoil(self, found):
        """Changes every list in a list of statements."""
        for statement in found:
            for item in statement:
                if isinstance(item, list):
                    item.append(("set", A, A))
        found.clear()


class WriteExpressionTest(unittest.TestCase):
    def check(self, e, text):
        self.assertEqual(write_expression(e), text)

    def test_document_example(self):
        self.check(("*", ("+", ("num", 1), A), ("-", ("num", 2), ("neg", ("at", "b", ("num", 0))))),
                   "(1 + a) * (2 - -b[0])")

    def test_leaves(self):
        for word in (0, 9, 10, 2147483648, 4294967295):
            self.check(("num", word), str(word))
        self.check(("cell", "x_1"), "x_1")

    def test_index(self):
        self.check(("at", "a", ("or", A, B)), "a[a or b]")
        self.check(("at", "a", ("at", "b", ("neg", ("num", 3)))), "a[b[-3]]")

    def test_unary(self):
        for kind, sign in SIGN_OF.items():
            self.check((kind, A), f"{sign}a")
            self.check((kind, ("num", 1)), f"{sign}1")
            self.check((kind, ("at", "a", ("+", A, B))), f"{sign}a[a + b]")
            for other, second in SIGN_OF.items():
                self.check((kind, (other, A)), f"{sign}{second}a")
            for operator in OPERATORS:
                self.check((kind, (operator, A, B)), f"{sign}(a {operator} b)")
                self.check((operator, (kind, A), B), f"{sign}a {operator} b")
                self.check((operator, A, (kind, B)), f"a {operator} {sign}b")
                self.check((operator, (kind, (operator, A, B)), C), f"{sign}(a {operator} b) {operator} c")

    def test_every_pair_of_operators(self):
        for own in OPERATORS:
            for other in OPERATORS:
                left = f"a {other} b" if group(other) >= group(own) else f"(a {other} b)"
                right = f"b {other} c" if group(other) > group(own) else f"(b {other} c)"
                self.check((own, (other, A, B), C), f"{left} {own} c")
                self.check((own, A, (other, B, C)), f"a {own} {right}")

    def test_groups_of_the_document(self):
        self.check(("or", ("and", A, B), C), "a and b or c")
        self.check(("and", ("or", A, B), C), "(a or b) and c")
        self.check(("-", A, ("-", B, C)), "a - (b - c)")
        self.check(("-", ("-", A, B), C), "a - b - c")
        self.check(("mod", A, ("*", B, C)), "a mod (b * c)")
        self.check(("==", ("<", A, B), ("~<=", B, C)), "a < b == b ~<= c")
        self.check(("^", ("|", A, B), ("&", B, C)), "(a | b) ^ b & c")

    def test_deep_on_the_right(self):
        e = A
        for _ in range(3000):
            e = ("+", A, e)
        self.check(e, "a + (" * 2999 + "a + a" + ")" * 2999)


class WriteProgramTest(unittest.TestCase):
    def test_document_example(self):
        body = [
            ("loop", "i", 3, ("<", ("cell", "v"), ("num", 9)),
             [("call", ("cell", "v"), "o", "f", [("cell", "i"), ("num", 2)])]),
            ("write", "p", ("cell", "v")),
        ]
        op = ("operation", "f", ["a", "b"], [], [], ("+", A, B))
        program = ("system", "s", [("out", "p")], [("object", "o", [], [op])],
                   [("task", "t", 900, 800, [("v", 0)], body)], [])
        self.assertEqual(write_program(program), (
            "system s\nout p\nobject o\n  operation f(a, b)\n    give a + b;\n  end\nend\n"
            "task t every 900 within 800\n  cell v\n  loop i to 3 while v < 9\n    v := o.f(i, 2);\n  end\n"
            "  write p v;\nend\n"
        ))

    def test_every_form(self):
        self.assertEqual(write_program(full_program()), FULL_TEXT)

    def test_name_alone(self):
        self.assertEqual(write_program(("system", "x", [], [], [], [])), "system x\n")

    def check_body(self, body, rows):
        self.assertEqual(write_program(task_program(body)), task_text(rows))

    def test_if(self):
        one, two = ("set", A, ("num", 1)), ("set", B, ("num", 2))
        self.check_body([("if", A, [], [])], ["if a", "end"])
        self.check_body([("if", ("neg", A), [one], [])], ["if -a", "  a := 1;", "end"])
        self.check_body([("if", A, [], [two])], ["if a", "else", "  b := 2;", "end"])
        self.check_body([("if", A, [one, two], [two, one])], [
            "if a", "  a := 1;", "  b := 2;", "else", "  b := 2;", "  a := 1;", "end",
        ])
        self.check_body([("if", A, [("if", B, [], [one])], [two])], [
            "if a", "  if b", "  else", "    a := 1;", "  end", "else", "  b := 2;", "end",
        ])

    def test_loop(self):
        self.check_body([("loop", "i", 1, None, [])], ["loop i to 1", "end"])
        self.check_body([("loop", "i", 64, ("not", A), [("loop", "j", 2, None, [("write", "p", ("neg", A))])])], [
            "loop i to 64 while !a", "  loop j to 2", "    write p -a;", "  end", "end",
        ])

    def test_call(self):
        self.check_body([("call", None, "o", "f", [])], ["o.f();"])
        self.check_body([("call", A, "o", "f", [("num", 1)])], ["a := o.f(1);"])
        self.check_body([("call", ("at", "a", ("+", A, B)), "o", "f", [("+", A, B), ("neg", A), C])], [
            "a[a + b] := o.f(a + b, -a, c);",
        ])

    def test_read_write_set(self):
        self.check_body([("read", A, "p"), ("read", ("at", "a", B), "p")], ["a := read p;", "a[b] := read p;"])
        self.check_body([("write", "p", ("*", ("+", A, B), C))], ["write p (a + b) * c;"])
        self.check_body([("set", ("at", "a", ("num", 0)), ("inv", ("or", A, B)))], ["a[0] := ~(a or b);"])

    def test_cells(self):
        program = task_program([("set", A, A)], [("a", 0), ("b", 1), ("c", 64)])
        self.assertEqual(write_program(program), task_text(["cell a", "cell b[1]", "cell c[64]", "a := a;"]))

    def test_operations(self):
        self.assertEqual(self.operation([], [], [], None), ["operation f()", "end"])
        self.assertEqual(self.operation(["a"], [("l", 2)], [], ("neg", A)),
                         ["operation f(a)", "  cell l[2]", "  give -a;", "end"])
        self.assertEqual(self.operation(["a", "b", "c"], [], [("set", A, B)], None),
                         ["operation f(a, b, c)", "  a := b;", "end"])

    def operation(self, params, cells, body, result):
        """The written lines of an operation."""
        op = ("operation", "f", params, cells, body, result)
        text = write_program(("system", "s", [], [("object", "o", [("v", 0)], [op])], [], []))
        lines = text.split("\n")
        self.assertEqual(lines[:3] + lines[-2:], ["system s", "object o", "  cell v", "end", ""])
        return [line[2:] for line in lines[3:-2]]

    def test_interrupts(self):
        rows = [("interrupt", "k", 4194304, 1, "o", "f", []), ("interrupt", "l", 9, 8, "o", "f", [0, 4294967295])]
        self.assertEqual(write_program(("system", "s", [], [], [], rows)), (
            "system s\ninterrupt k every 4194304 within 1 calls o.f()\n"
            "interrupt l every 9 within 8 calls o.f(0, 4294967295)\n"
        ))

    def test_ports_and_empty_object(self):
        program = ("system", "s", [("out", "b"), ("in", "a")], [("object", "o", [], [])], [], [])
        self.assertEqual(write_program(program), "system s\nout b\nin a\nobject o\nend\n")


class ArgumentsTest(unittest.TestCase):
    def test_programs_are_as_they_were(self):
        for seed in range(30):
            program = Maker(seed).program()
            before = copy.deepcopy(program)
            write_program(program)
            for task in program[4]:
                statements(task[5])
            self.assertEqual(program, before)

    def test_size_of_written_form(self):
        """Each leaf, sign and operator of the written form is one part of the expression."""
        for seed in range(200):
            e = Maker(seed).expression(6)
            self.assertEqual(size(e), size(parse_expression(write_expression(e))))
            self.assertLessEqual(depth(e), 6)
