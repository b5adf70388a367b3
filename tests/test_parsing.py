import unittest

from deadbeat.errors import TextError
from deadbeat.parsing import parse_expression, parse_program
from deadbeat.tokens import spell, tokenize
from deadbeat.trees import write_expression, write_program
from tests.samples import FULL_TEXT, GROUPS, OPERATORS, UNARY, Maker, full_program

A, B, C = ("cell", "a"), ("cell", "b"), ("cell", "c")
SIGN_OF = {"neg": "-", "inv": "~", "not": "!"}


def group(operator):
    return [operator in row for row in GROUPS].index(True)


def parse_body(text):
    """The body of a task whose statements are the text."""
    return parse_program(f"system s task t every 9 within 8 {text} end")[4][0][5]


class ParsingCase(unittest.TestCase):
    def refuse(self, parse, text, line):
        with self.assertRaises(TextError, msg=text) as caught:
            parse(text)
        self.assertEqual(caught.exception.line, line, text)

    def refuse_expression(self, text, line=1):
        self.refuse(parse_expression, text, line)

    def refuse_program(self, text, line=1):
        self.refuse(parse_program, text, line)

    def refuse_body(self, text, line=1):
        self.refuse(parse_body, text, line)


class ExpressionTest(ParsingCase):
    def check(self, text, e):
        self.assertEqual(parse_expression(text), e)

    def test_document_examples(self):
        self.check("1 + a[i] * 2 - 3",
                   ("-", ("+", ("num", 1), ("*", ("at", "a", ("cell", "i")), ("num", 2))), ("num", 3)))
        self.refuse_expression("1 +")

    def test_leaves(self):
        self.check("0", ("num", 0))
        self.check("0xffffffff", ("num", 4294967295))
        self.check("a", A)
        self.check("a[b]", ("at", "a", B))
        self.check("a[b[c or 1]]", ("at", "a", ("at", "b", ("or", C, ("num", 1)))))

    def test_every_operator(self):
        for operator in OPERATORS:
            self.check(f"a {operator} b", (operator, A, B))
            self.check(f"a {operator} b {operator} c", (operator, (operator, A, B), C))
            self.check(f"a {operator} (b {operator} c)", (operator, A, (operator, B, C)))

    def test_every_pair_of_operators(self):
        for first in OPERATORS:
            for second in OPERATORS:
                if group(second) > group(first):
                    expected = (first, A, (second, B, C))
                else:
                    expected = (second, (first, A, B), C)
                self.check(f"a {first} b {second} c", expected)

    def test_all_groups_at_once(self):
        text = "a or a and a | a ^ a & a == a < a << a + a * a"
        expected = A
        for operator in ("*", "+", "<<", "<", "==", "&", "^", "|", "and", "or"):
            expected = (operator, A, expected)
        self.check(text, expected)
        back = "a * a + a << a < a == a & a ^ a | a and a or a"
        expected = A
        for operator in ("*", "+", "<<", "<", "==", "&", "^", "|", "and", "or"):
            expected = (operator, expected, A)
        self.check(back, expected)

    def test_unary(self):
        for kind in UNARY:
            sign = SIGN_OF[kind]
            self.check(f"{sign}a", (kind, A))
            self.check(f"{sign} {sign} a", (kind, (kind, A)))
            self.check(f"{sign}a[b]", (kind, ("at", "a", B)))
            for operator in OPERATORS:
                self.check(f"{sign}a {operator} {sign}b", (operator, (kind, A), (kind, B)))
                self.check(f"{sign}(a {operator} b)", (kind, (operator, A, B)))
        self.check("-~!-1", ("neg", ("inv", ("not", ("neg", ("num", 1))))))
        self.check("a - -b", ("-", A, ("neg", B)))
        self.check("a--b", ("-", A, ("neg", B)))

    def test_more_parentheses_than_needed(self):
        self.check("(a)", A)
        self.check("((a))", A)
        self.check("((a) + ((b)))", ("+", A, B))
        self.check("-(a)", ("neg", A))
        self.check("a[(b)]", ("at", "a", B))
        self.check("(a * b) + c", ("+", ("*", A, B), C))

    def test_spaces_and_comments(self):
        self.check("\n a\n[ # index\n b\n] # end\n\n", ("at", "a", B))
        self.check("(a+b)*c", ("*", ("+", A, B), C))
        self.check("a~<=b", ("~<=", A, B))
        self.check("a~<~b", ("~<", A, ("inv", B)))

    def test_long_chains(self):
        for operator, many in (("+", 5000), ("or", 3000), ("~<=", 3000), ("mod", 3000)):
            e = parse_expression(f" {operator} ".join(["a"] * many))
            for _ in range(many - 1):
                self.assertEqual((e[0], e[2]), (operator, A))
                e = e[1]
            self.assertEqual(e, A)

    def test_breaches(self):
        for text in ("", "# a", "+", "a +", "a b", "a 1", "1 a", "(a", "a)", "()", "a[", "a[]", "a[1", "1[2]", "(a)[1]",
                     "a[1][2]", "a + * b", "+ a", "not a", "a not b", "neg a", "read a", "a := b", "a;", "a, b",
                     "o.f()",
                     "a.b", "[a]", "a]", "if", "a if b", "-", "a -", "a ~ b", "a ! b", "a mod", "mod a", "a and or b",
                     "system", "a << << b", "a[b:=c]"):
            self.refuse_expression(text)

    def test_line_of_a_breach(self):
        self.refuse_expression("a\n+\n+\nb", 3)
        self.refuse_expression("a\nb\nc", 2)
        self.refuse_expression("a +\n\n", 3)
        self.refuse_expression("a + # b\n# c", 2)
        self.refuse_expression("\n\n", 3)
        self.refuse_expression("(a\n)\n)", 3)

    def test_errors_of_tokens_come_first(self):
        self.refuse_expression("+ + +\n\n a = b", 3)
        self.refuse_expression(")\n01", 2)
        self.refuse_expression("a b\n#\n#\n abcdefghijklmnopq", 4)


class NestingTest(ParsingCase):
    def test_twelve_of_each(self):
        for first, last in (("(", ")"), ("a[", "]"), ("-", ""), ("~", ""), ("!", "")):
            parse_expression(first * 12 + "a" + last * 12)
            self.refuse_expression(first * 13 + "a" + last * 13)

    def test_mixed(self):
        parse_expression("-(" * 6 + "a" + ")" * 6)
        self.refuse_expression("-(" * 6 + "-a" + ")" * 6)
        parse_expression("~b[!(" * 3 + "a" + ")]" * 3)
        self.refuse_expression("~b[!(" * 3 + "b[a]" + ")]" * 3)

    def test_index_behind_twelve_signs(self):
        parse_expression("-" * 11 + "a[b]")
        self.refuse_expression("-" * 12 + "a\n[b]", 2)

    def test_the_thirteenth_decides(self):
        self.refuse_expression("(\n" * 13 + ")", 13)
        self.refuse_expression("(\n" * 14 + ")", 13)
        self.refuse_expression("-\n" * 13 + "+", 13)
        self.refuse_expression("(\n" * 12 + ")", 13)

    def test_closed_ones_do_not_count(self):
        parse_expression(" + ".join(["-(a) * b[-c]"] * 20))
        parse_expression("(" * 11 + "(a) + (b) + -c - -d + e[1]" + ")" * 11)
        parse_expression("(" * 11 + "-a + (b)" + ")" * 11)
        parse_expression("-" * 12 + "a + " + "-" * 12 + "b")
        self.refuse_expression("(" * 11 + "-(b)" + ")" * 11)

    def test_closed_ones_leave_the_others_open(self):
        self.refuse_expression("(" * 11 + "(a) + (b) +\n((c))" + ")" * 11, 2)
        self.refuse_expression("(" * 11 + "a[1] + b[2] +\n(c[3])" + ")" * 11, 2)
        self.refuse_expression("(" * 11 + "-a + -b +\n--c" + ")" * 11, 2)
        self.refuse_body("o.f(" + "(" * 10 + "a + (b) + (c)" + ")" * 10 + ",\n" + "(" * 12 + "a" + ")" * 12 + ");", 2)

    def test_operand_ends_behind_its_index(self):
        parse_expression("(" * 10 + "-a[1] + b[c[2]]" + ")" * 10)
        self.refuse_expression("(" * 10 + "-a[b[1]]" + ")" * 10)

    def test_parentheses_of_a_call_count(self):
        inside = "(" * 11 + "a" + ")" * 11
        parse_body(f"o.f({inside}, {inside});")
        parse_body(f"a := o.f({inside});")
        self.refuse_body(f"o.f(({inside}));")
        self.refuse_body(f"o.f(a, \n-{inside});".replace("(a", "(\na"), 3)

    def test_brackets_of_a_target_count(self):
        inside = "-" * 11 + "a"
        parse_body(f"a[{inside}] := b;")
        self.refuse_body(f"a[-{inside}] := b;")
        parse_body(f"a[{inside}] := -{inside};")
        parse_body(f"a[{inside}] := read p;")

    def test_declarations_do_not_count(self):
        inside = "(" * 12 + "a" + ")" * 12
        parse_program(f"system s object o cell v[3] operation f(a, b) cell w[1] give {inside}; end end")
        parse_program("system s interrupt k every 1 within 1 calls o.f(1, 2) interrupt l every 1 within 1 calls o.f()")

    def test_conditions_are_no_parentheses(self):
        inside = "(" * 12 + "a" + ")" * 12
        parse_body(f"if {inside} write p {inside}; loop i to 3 while {inside} end end")

    def test_blocks(self):
        for first in ("if a ", "loop i to 2 ", "if a else "):
            parse_body(first * 8 + "end " * 8)
            self.refuse_body(first * 9 + "end " * 9)
        parse_body("if a loop i to 2 " * 4 + "end " * 8)
        self.refuse_body("if a loop i to 2 " * 4 + "\nif a " + "end " * 9, 2)
        self.refuse_body("if a loop i to 2 " * 4 + "\nloop\n9 " + "end " * 9, 2)

    def test_closed_blocks_do_not_count(self):
        parse_body("if a end loop i to 2 end " * 10)
        parse_body("if a " * 7 + "if b end loop j to 3 end if b else if_ := 2; end " + "end " * 7)

    def test_closed_blocks_leave_the_others_open(self):
        self.refuse_body("if a " * 7 + "if b end loop i to 3 end if b\nif c end end " + "end " * 7, 2)

    def test_blocks_and_parentheses_are_counted_apart(self):
        inside = "(" * 12 + "a" + ")" * 12
        parse_body("if a " * 8 + f"a := {inside};" + "end " * 8)


class NumberTest(ParsingCase):
    def check(self, before, behind, least, most):
        for number in (least, most):
            parse_program(f"{before} {number} {behind}")
        for number in (least - 1, most + 1, 4294967295):
            self.refuse_program(f"{before}\n{number}\n{behind}", 2)

    def test_sizes(self):
        self.check("system s object o cell v[", "] end", 1, 64)
        self.check("system s object o operation f() cell v[", "] end end", 1, 64)
        self.check("system s task t every 9 within 9 cell v[", "] end", 1, 64)

    def test_rounds(self):
        self.check("system s task t every 9 within 9 loop i to", "end end", 1, 64)

    def test_times(self):
        self.check("system s task t every", "within 1 end", 1, 4194304)
        self.check("system s task t every 4194304 within", "end", 1, 4194304)
        self.check("system s interrupt k every", "within 1 calls o.f()", 1, 4194304)
        self.check("system s interrupt k every 4194304 within", "calls o.f()", 1, 4194304)

    def test_deadline_may_be_longer(self):
        """That within is at most every is a rule, not a limit of the grammar."""
        task = parse_program("system s task t every 1 within 4194304 end")[4][0]
        self.assertEqual(task, ("task", "t", 1, 4194304, [], []))

    def test_hexadecimal(self):
        self.assertEqual(parse_program("system s object o cell v[0x40] end")[3][0][2], [("v", 64)])
        self.refuse_program("system s object o cell v[0x41] end")

    def test_words(self):
        text = "system s interrupt k every 1 within 1 calls o.f(0, 4294967295, 0xffffffff)"
        self.assertEqual(parse_program(text)[5][0][6], [0, 4294967295, 4294967295])
        self.assertEqual(parse_body("a[4294967295] := 4294967295;"),
                         [("set", ("at", "a", ("num", 4294967295)), ("num", 4294967295))])

    def test_order_of_breaches(self):
        self.refuse_program("system s task t every\n0\nwithin\n0\n", 2)
        self.refuse_program("system s task t every\n1\nwithin\n0\n;", 4)
        self.refuse_program("system s task t within\n0\n")


class ProgramTest(ParsingCase):
    def test_every_form(self):
        self.assertEqual(parse_program(FULL_TEXT), full_program())

    def test_other_spaces_and_lines(self):
        tokens = tokenize(FULL_TEXT)
        one_line = spell(tokens)
        self.assertEqual(parse_program(one_line), full_program())
        self.assertEqual(parse_program(one_line.replace(" ", "\n")), full_program())
        self.assertEqual(parse_program(one_line.replace(" ", " # ( if\n  ")), full_program())
        self.assertEqual(parse_program(FULL_TEXT[:-1] + "# end"), full_program())
        dense = one_line
        for sign in "; , . ( ) [ ] :=".split():
            dense = dense.replace(f" {sign}", sign).replace(f"{sign} ", sign)
        self.assertLess(len(dense), len(FULL_TEXT))
        self.assertEqual(parse_program(dense), full_program())

    def test_name_alone(self):
        self.assertEqual(parse_program("system s"), ("system", "s", [], [], [], []))

    def test_empty_else(self):
        self.assertEqual(parse_body("if a else end"), [("if", A, [], [])])
        self.assertEqual(parse_body("if a b := 1; else end"), parse_body("if a b := 1; end"))

    def test_statements(self):
        self.assertEqual(parse_body("a := b; a[1] := b[2];"), [
            ("set", A, B), ("set", ("at", "a", ("num", 1)), ("at", "b", ("num", 2))),
        ])
        self.assertEqual(parse_body("a := read p; a[b] := read p;"), [("read", A, "p"), ("read", ("at", "a", B), "p")])
        self.assertEqual(parse_body("o.f(); a := o.f(1); a[b] := o.f(a + b, -c);"), [
            ("call", None, "o", "f", []), ("call", A, "o", "f", [("num", 1)]),
            ("call", ("at", "a", B), "o", "f", [("+", A, B), ("neg", C)]),
        ])
        self.assertEqual(parse_body("write p (a); write p -a;"), [("write", "p", A), ("write", "p", ("neg", A))])

    def test_statement_behind_an_expression(self):
        self.assertEqual(parse_body("if a b[c] := 1; end"),
                         [("if", A, [("set", ("at", "b", C), ("num", 1))], [])])
        self.assertEqual(parse_body("if a b.c(); end"), [("if", A, [("call", None, "b", "c", [])], [])])
        self.assertEqual(parse_body("loop i to 3 while a b := c; end"),
                         [("loop", "i", 3, A, [("set", B, C)])])
        self.assertEqual(parse_body("loop i to 3 b := c; end"), [("loop", "i", 3, None, [("set", B, C)])])

    def test_rules_are_not_the_grammar(self):
        """Limits of point 0.17 and names are rules (point 4.5)."""
        tasks = " ".join(["task t every 1 within 1 end"] * 9)
        self.assertEqual(len(parse_program(f"system s {tasks}")[4]), 9)
        params = ", ".join(["a"] * 20)
        self.assertEqual(len(parse_program(f"system s object o operation f({params}) end end")[3][0][3][0][2]), 20)
        body = parse_body("loop i to 1 " * 5 + "a := 1;" * 300 + "end " * 5)
        for _ in range(5):
            self.assertEqual(len(body), 1)
            body = body[0][4]
        self.assertEqual(body, [("set", A, ("num", 1))] * 300)
        self.assertEqual(parse_program("system s in s in s")[2], [("in", "s"), ("in", "s")])

    def test_breaches(self):
        for text in (
            "", "s", "system", "system system", "system 1", "systems s", "system s s", "system s in", "system s in 1",
            "system s out in", "system s object", "system s object o", "system s object o end end",
            "system s object o end in p", "system s task t every 1 within 1 end object o end",
            "system s task t every 1 within 1 end in p", "system s interrupt k every 1 within 1 calls o.f() end",
            "system s interrupt k every 1 within 1 calls o.f() task t every 1 within 1 end",
            "system s object o cell end", "system s object o cell v[] end", "system s object o cell v[a] end",
            "system s object o cell v[1 + 1] end", "system s object o cell v[1 end", "system s object o cell v, w end",
            "system s object o operation f() end cell v end", "system s object o v := 1; end",
            "system s object o operation f end end", "system s object o operation f( end end",
            "system s object o operation f(1) end end", "system s object o operation f(a,) end end",
            "system s object o operation f(,a) end end", "system s object o operation f(a b) end end",
            "system s object o operation f() a := 1; cell v end end", "system s object o operation f() give; end end",
            "system s object o operation f() give a end end", "system s object o operation f() give a; a := 1; end end",
            "system s object o operation f() give a; give b; end end",
            "system s object o operation f() give o.f(); end end",
            "system s task t end", "system s task t every 1 end", "system s task t within 1 every 1 end",
            "system s task t every a within 1 end", "system s task t every 1 within 1",
            "system s task every 1 within 1 end",
            "system s task t every 1 within 1 give 1; end", "system s task t every 1 within 1 a := 1; cell v end",
            "system s task t every 1 within 1 cell v; end", "system s task t() every 1 within 1 end",
            "system s interrupt k every 1 within 1", "system s interrupt k every 1 within 1 calls",
            "system s interrupt k every 1 within 1 calls o", "system s interrupt k every 1 within 1 calls o.f",
            "system s interrupt k every 1 within 1 calls o.f(a)", "system s interrupt k every 1 within 1 calls o.f(-1)",
            "system s interrupt k every 1 within 1 calls o.f(1,)",
            "system s interrupt k every 1 within 1 calls o.f(1 2)",
            "system s interrupt k every 1 within 1 calls o.f(1 + 2)",
            "system s interrupt k every 1 within 1 calls o.f();",
            "a := 1;", "1",
        ):
            self.refuse_program(text)

    def test_breaches_in_bodies(self):
        for text in (
            "a", "a;", "a := ;", "a := 1", "a = 1;", "a == 1;", "1 := a;", "a + 1 := 2;", "(a) := 1;", "a[] := 1;",
            "a[1 := 1;", "a[1][2] := 1;", "a := b := 1;", "a := read;", "a := read 1;", "a := read p + 1;",
            "a := (read p);", "read p;", "a := write p 1;", "write p;", "write p 1", "write 1;", "write p[1];",
            "write p := 1;", "o.f;", "o.f()", "o.f(", "o.f(a,);", "o.f(,);", "o.f(a b);", "o.1();", "o.f.g();",
            "o.f()[1];",
            "o.f() + 1;", "o[1].f();", "a := o.f() + 1;", "a := 1 + o.f();", "a := (o.f());", "a := -o.f();",
            "o.f(o.f());",
            "a := o.f;", "if end", "if a", "if a then end", "if a; end", "if a else else end", "if o.f() end",
            "if a b := 1 end", "else end", "if a end;", "loop to 3 end", "loop i 3 end", "loop i to end",
            "loop i to a end",
            "loop i to -1 end", "loop i to 3 while end", "loop i to 3", "loop 1 to 3 end", "loop i[1] to 3 end",
            "while a end",
            "loop i to 3 else end", "a := 1; cell v", "a := 1; give a;", ";", "end", "a := mod b;", "mod := 1;",
        ):
            self.refuse_body(text)

    def test_line_of_a_breach(self):
        lines = FULL_TEXT.split("\n")
        for at in range(len(lines)):
            self.refuse_program("\n".join(lines[:at] + [")"] + lines[at:]), at + 1)

    def test_line_of_the_end(self):
        self.refuse_program("system s task t every 1 within 1", 1)
        self.refuse_program("system s task t every 1 within 1\n", 2)
        self.refuse_program("system s\ntask t every 1 within 1\n# end\n\n", 5)
        self.refuse_program("", 1)
        self.refuse_program("\n\n\n", 4)
        self.refuse_program("system\n", 2)

    def test_behind_the_last_line(self):
        self.refuse_program(FULL_TEXT + "\n\nend", len(FULL_TEXT.split("\n")) + 2)
        self.refuse_program("system s\n\n;", 3)
        self.refuse_program("system s\nsystem s", 2)

    def test_errors_of_tokens_come_first(self):
        self.refuse_program(")\n\n=\n", 3)
        self.refuse_program("system\n" + FULL_TEXT + "00", len(FULL_TEXT.split("\n")) + 1)
        self.refuse_program("system s task t every 0 within 0\n#\n_", 3)


class RoundTripTest(unittest.TestCase):
    def test_expressions(self):
        for seed in range(2000):
            e = Maker(seed).expression(6)
            self.assertEqual(parse_expression(write_expression(e)), e)

    def test_programs(self):
        for seed in range(150):
            program = Maker(seed).program()
            self.assertEqual(parse_program(write_program(program)), program)

    def test_written_form_of_a_parsed_text(self):
        self.assertEqual(write_program(parse_program(FULL_TEXT)), FULL_TEXT)


class IndependenceTest(unittest.TestCase):
    def spoil(self, item):
        """Changes every list in a tree."""
        for part in item:
            if isinstance(part, (list, tuple)):
                self.spoil(part)
        if isinstance(item, list):
            item.append("spoiled")

    def test_results_share_nothing(self):
        self.spoil(parse_program(FULL_TEXT))
        self.assertEqual(parse_program(FULL_TEXT), full_program())
        self.spoil(parse_body("if a end o.f(); loop i to 1 end"))
        self.assertEqual(parse_body("if a end o.f(); loop i to 1 end"), [
            ("if", A, [], []), ("call", None, "o", "f", []), ("loop", "i", 1, None, []),
        ])
