"""Compares the parser with the grammar of point 4.1, token by token, by means of Earley's algorithm."""

import re
import unittest

from deadbeat.errors import TextError
from deadbeat.parsing import parse_expression, parse_program
from deadbeat.tokens import tokenize
from tests.samples import FULL_TEXT, OPERATORS

GRAMMAR = """
program   = "system" NAME { port } { object } { task } { interrupt }
port      = ( "in" | "out" ) NAME
object    = "object" NAME { cells } { operation } "end"
cells     = "cell" NAME [ "[" NUM "]" ]
operation = "operation" NAME "(" [ NAME { "," NAME } ] ")" { cells } { statement } [ "give" expr ";" ] "end"
task      = "task" NAME "every" NUM "within" NUM { cells } { statement } "end"
interrupt = "interrupt" NAME "every" NUM "within" NUM "calls" NAME "." NAME "(" [ NUM { "," NUM } ] ")"
statement = target ":=" expr ";" | target ":=" "read" NAME ";" | [ target ":=" ] call ";"
          | "write" NAME expr ";" | "if" expr { statement } [ "else" { statement } ] "end"
          | "loop" NAME "to" NUM [ "while" expr ] { statement } "end"
call      = NAME "." NAME "(" [ expr { "," expr } ] ")"
target    = NAME [ "[" expr "]" ]
expr      = unary { operator unary }
unary     = ( "-" | "~" | "!" ) unary | NUM | NAME [ "[" expr "]" ] | "(" expr ")"
"""
TEXTS = [
    FULL_TEXT,
    "system s object o operation f(a, b) cell l cell m[3] m[a] := l; give -a + (m[~b] * 2); end end",
    "system s object o cell v operation f() end operation g() give 1; end end "
    "interrupt k every 5 within 4 calls o.f(1, 2)",
    "system s in p out q task t every 5 within 4 if a loop i to 3 while !a write q a[1]; end else o.f(); end end",
]
EXPRESSIONS = ["-~!(a[1 + b] mod 2) <= c and (1 | d) or 3", "a[b[c]]"]


class Rules:
    """The grammar as rules (left, right), where a terminal in a right side starts with a quote."""

    def __init__(self):
        self.rules = {"operator": [[f"'{operator}"] for operator in OPERATORS]}
        for line in re.sub(r"\n +\|", " |", GRAMMAR).strip().split("\n"):
            left, right = line.split("=", 1)
            self.signs = re.findall(r'"[^"]+"|\w+|[][(){}|]', right)
            self.rules[left.strip()] = self.choices()

    def choices(self):
        found = [[]]
        while self.signs and self.signs[0] not in ("]", "}", ")"):
            sign = self.signs.pop(0)
            if sign == "|":
                found.append([])
            elif sign in ("[", "{", "("):
                found[-1].append(self.group(sign))
            elif sign.startswith('"') or sign in ("NAME", "NUM"):
                found[-1].append("'" + sign.strip('"'))
            else:
                found[-1].append(sign)
        return found

    def group(self, sign):
        name = f"group {len(self.rules)}"
        self.rules[name] = []
        inner = self.choices()
        self.signs.pop(0)
        if sign == "(":
            self.rules[name] = inner
        elif sign == "[":
            self.rules[name] = inner + [[]]
        else:
            self.rules[name] = [row + [name] for row in inner] + [[]]
        return name

    def terminals(self):
        signs = {sign for rows in self.rules.values() for row in rows for sign in row}
        return sorted(sign[1:] for sign in signs if sign.startswith("'"))


class Chart:
    """The sets of Earley's items for the tokens read so far."""

    def __init__(self, rules, start):
        self.rules = rules
        self.start = start
        self.sets = []
        self.close([(start, number, 0, 0) for number in range(len(rules[start]))])

    def close(self, kernel):
        at = len(self.sets)
        items = list(kernel)
        self.sets.append(items)
        seen = set(items)
        number = 0
        while number < len(items):
            for item in self.grown(items[number], at, items):
                if item not in seen:
                    seen.add(item)
                    items.append(item)
            number += 1

    def grown(self, item, at, items):
        left, number, dot, origin = item
        row = self.rules[left][number]
        if dot < len(row):
            if row[dot].startswith("'"):
                return []
            found = [(row[dot], other, 0, at) for other in range(len(self.rules[row[dot]]))]
            # A part that may be empty can be over at once.
            done = [i for i in items if i[0] == row[dot] and i[3] == at and i[2] == len(self.rules[i[0]][i[1]])]
            return found + [(left, number, dot + 1, origin)] * (len(done) > 0)
        return [
            (i[0], i[1], i[2] + 1, i[3]) for i in self.sets[origin]
            if i[2] < len(self.rules[i[0]][i[1]]) and self.rules[i[0]][i[1]][i[2]] == left
        ]

    def waiting(self, terminal):
        return [
            (left, number, dot + 1, origin) for left, number, dot, origin in self.sets[-1]
            if dot < len(self.rules[left][number]) and self.rules[left][number][dot] == "'" + terminal
        ]

    def complete(self):
        return any(i[0] == self.start and i[3] == 0 and i[2] == len(self.rules[i[0]][i[1]]) for i in self.sets[-1])


def terminal_of(token):
    kind, value, _ = token
    if kind == "name":
        return "NAME"
    if kind == "number":
        return "NUM"
    return value


def told(parse, words):
    """The line of the error for the words, each on its own line, or 0 if there is none."""
    try:
        parse("\n".join(words))
    except TextError as error:
        return error.line
    return 0


class GrammarTest(unittest.TestCase):
    def setUp(self):
        self.rules = Rules()
        self.terminals = self.rules.terminals()

    def test_terminals(self):
        self.assertEqual(len(self.terminals), 23 + 25 + 2)

    def check(self, text, start, parse):
        """Puts every terminal behind every beginning of the text."""
        chart = Chart(self.rules.rules, start)
        words = []
        for token in tokenize(text):
            for terminal in self.terminals:
                self.check_next(chart, words, terminal, parse)
            if token[0] != "end":
                words.append(str(token[1]))
                kernel = chart.waiting(terminal_of(token))
                self.assertTrue(kernel, words)
                chart.close(kernel)
        self.assertTrue(chart.complete())
        self.assertEqual(told(parse, words), 0)

    def check_next(self, chart, words, terminal, parse):
        row = words + [{"NAME": "some", "NUM": "5"}.get(terminal, terminal)]
        kernel = chart.waiting(terminal)
        expected = len(row)
        if kernel:
            chart.close(kernel)
            expected = 0 if chart.complete() else len(row) + 1
            chart.sets.pop()
        # The empty word keeps the token "end" off the line of the last word.
        self.assertEqual(told(parse, row + [""]), expected, row)

    def test_programs(self):
        for text in TEXTS:
            self.check(text, "program", parse_program)

    def test_expressions(self):
        for text in EXPRESSIONS:
            self.check(text, "expr", parse_expression)
