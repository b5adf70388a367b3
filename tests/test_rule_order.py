"""Which part of a program decides, and which rule, if several are broken."""

import unittest

from deadbeat.errors import RuleError
from deadbeat.rules import check
from tests.programs import at, cell, interrupt, num, operation, put, shared, system, task

RULES = ["size", "name", "cell", "port", "call"]
TOO_DEEP = ("neg", ("neg", ("neg", ("neg", ("neg", ("neg", num(1)))))))
TOO_DEEP_ARGUMENT = TOO_DEEP[1][1]
MANY = [put("v", num(1))] * 201
FIVE_LOOPS = []
for name in "mnopq":
    FIVE_LOOPS = [("loop", name, 2, None, FIVE_LOOPS)]
EIGHT_IFS = []
for _ in range(8):
    EIGHT_IFS = [("if", num(1), EIGHT_IFS, [])]
CELLS_17 = [(f"c{n}", 0) for n in range(17)]


def e_breaks(key, deep=TOO_DEEP):
    """How an expression is broken."""
    return [("size", key, deep), ("size", key, ("+", cell("none"), deep)), ("cell", key, cell("none")),
            ("cell", key, cell("a"))]


def cell_breaks(key, other):
    """How a field or a local is broken: its size, its name, and both in one."""
    return [("size", key, ("z_z", 65)), ("size", key, ("", -1)), ("name", key, ("end", 0)), ("name", key, (other, 0))]


def body_parts(where):
    """The parts of a body in their order; each is a list of breaks: rule, key and value."""
    parts = [
        [("size", f"{where} body", rows) for rows in (MANY, FIVE_LOOPS, EIGHT_IFS)],
        e_breaks(f"{where} set value"), e_breaks(f"{where} set index"),
        [("cell", f"{where} set place", "v"), ("cell", f"{where} set place", "none")],
        e_breaks(f"{where} if test"), [("cell", f"{where} then", "a")], [("cell", f"{where} other", "none")],
        e_breaks(f"{where} loop test"),
        [("size", f"{where} count", 65), ("size", f"{where} count", 0), ("name", f"{where} variable", "v"),
         ("name", f"{where} variable", "loop")],
        [("cell", f"{where} inside", "i")],
        e_breaks(f"{where} argument 0", TOO_DEEP_ARGUMENT), e_breaks(f"{where} argument 1", TOO_DEEP_ARGUMENT),
        e_breaks(f"{where} call index"),
        [("cell", f"{where} call place", "v"), ("call", f"{where} callee", "none"), ("call", f"{where} called", "none"),
         ("call", f"{where} called", "one")],
    ]
    if where == "task":
        parts += [
            e_breaks("read index"), [("cell", "read place", "none"), ("port", "read port", "q0")],
            e_breaks("write value"), [("port", "write port", "p0")],
        ]
    else:
        parts += [[("port", f"{where} read", [("read", cell("v"), "p0")])]]
    return parts


OPERATION_PARTS = [
    [("size", "params", ["w", "w", "w", "w", "w"]), ("size", "locals", CELLS_17), ("name", "f", "or")],
    [("name", "param", "1")], [("name", "param", "v")], cell_breaks("local", "x"),
] + body_parts("operation") + [e_breaks("result")]
TASK_PARTS = [
    [("size", "every", 0), ("size", "within", 901), ("size", "task locals", CELLS_17), ("name", "t", "p0")],
    cell_breaks("task local", "v"),
] + body_parts("task")
PARTS = [
    [("name", "name", "9")],
    [("size", "ports", [("in", f"p{n}") for n in range(9)]), ("size", "ports", [("out", f"p{n}") for n in range(9)])],
    [("name", "port 0", "in")], [("name", "port 1", "p0")],
    [("size", "objects", [shared(""), shared("p0")])],
    [("size", "fields", CELLS_17), ("size", "operations", [operation("f")] * 5), ("name", "o", "p0")],
    cell_breaks("field 0", ""), cell_breaks("field 1", "v"),
] + OPERATION_PARTS + [
    [("name", "g", "f")],
    [("name", "middle", "o")], cell_breaks("middle field", ""),
    [("size", "tasks", [task("p0"), task("")] * 4)],
] + TASK_PARTS + [
    [("size", "every 2", 4194305), ("name", "t 2", "t")],
    [("size", "interrupts", [interrupt("k", "none", "f")] * 2)],
    [("size", "every 3", 799), ("name", "k", "t"), ("call", "k given", [1]), ("call", "k object", "none"),
     ("call", "k called", "none")],
    [("size", "within 4", 0), ("name", "l", "k"), ("call", "l given", [1, 2, 3])],
]


def body(where, pick):
    def one(key, good):
        return pick(f"{where} {key}", good)

    rows = [
        ("set", at(one("set place", "a"), one("set index", num(1))), one("set value", cell("v"))),
        ("if", one("if test", num(1)), [put(one("then", "v"), num(1))], [put(one("other", "v"), num(1))]),
        ("loop", one("variable", "i"), one("count", 2), one("loop test", num(1)), [put(one("inside", "v"), num(1))]),
        ("call", at(one("call place", "a"), one("call index", num(1))), one("callee", "last"), one("called", "two"),
         [one("argument 0", num(1)), one("argument 1", num(1))]),
    ]
    if where == "task":
        rows += [
            ("read", at(pick("read place", "a"), pick("read index", num(1))), pick("read port", "p0")),
            ("write", pick("write port", "q0"), pick("write value", num(1))),
        ]
    return rows + one("read", []) + one("body", [])


def program(changes):
    """A program that is valid but for the changes, a dict from keys to values."""
    def pick(key, good):
        return changes.get(key, good)

    ports = [("in", pick("port 0", "p0")), ("in", pick("port 1", "p_")), ("out", "q0")] + pick("ports", [])
    params = [pick("param", "x")] + pick("params", [])
    f = operation(pick("f", "f"), params, [pick("local", ("l", 0))] + pick("locals", []), body("operation", pick),
                  pick("result", num(1)))
    fields = [pick("field 0", ("v", 0)), pick("field 1", ("a", 3))] + pick("fields", [])
    first = shared(pick("o", "o"), fields, [f, operation(pick("g", "g"))] + pick("operations", []))
    middle = shared(pick("middle", "middle"), [pick("middle field", ("v", 0))])
    last = shared("last", [], [operation("one", ["x"]), operation("two", ["x", "y"])])
    cells = [("v", 0), ("a", 3), pick("task local", ("l", 0))] + pick("task locals", [])
    tasks = [task(pick("t", "t"), body("task", pick), cells, pick("every", 900), pick("within", 800)),
             task(pick("t 2", "t2"), every=pick("every 2", 900))]
    interrupts = [
        interrupt(pick("k", "k"), pick("k object", "last"), pick("k called", "two"), pick("k given", [1, 2]),
                  pick("every 3", 900), 800),
        interrupt(pick("l", "l"), "last", "two", pick("l given", [1, 2]), 900, pick("within 4", 800)),
    ]
    return system(name=pick("name", "s"), ports=ports, objects=[first, middle, last] + pick("objects", []),
                  tasks=tasks + pick("tasks", []), interrupts=interrupts + pick("interrupts", []))


class OrderTest(unittest.TestCase):
    def decides(self, changes, rule):
        with self.assertRaises(RuleError, msg=list(changes)) as caught:
            check(program(changes))
        self.assertEqual(caught.exception.rule, rule, changes)

    def test_nothing_is_broken(self):
        self.assertIsNone(check(program({})))

    def test_each_break(self):
        for part in PARTS:
            for rule, key, value in part:
                self.decides({key: value}, rule)

    def test_breaks_are_in_the_order_of_the_rules(self):
        for part in PARTS:
            ranks = [RULES.index(rule) for rule, _, _ in part]
            self.assertEqual(ranks, sorted(ranks))

    def test_two_breaks(self):
        """Of two breaks the one of the earlier part decides, and in one part the earlier rule."""
        breaks = [row for part in PARTS for row in part]
        for number, (rule, key, value) in enumerate(breaks):
            for other, second, wrong in breaks[number + 1:]:
                if second != key and other != rule:
                    self.decides({key: value, second: wrong}, rule)

    def test_three_breaks(self):
        breaks = [row for part in PARTS for row in part]
        for number, (rule, key, value) in enumerate(breaks):
            for step in range(1, len(breaks) - number - 1):
                more = [breaks[number + step], breaks[-step]]
                if key not in (more[0][1], more[1][1]):
                    self.decides({more[0][1]: more[0][2], more[1][1]: more[1][2], key: value}, rule)


class LaterNameTest(unittest.TestCase):
    def decides(self, given, rule):
        with self.assertRaises(RuleError) as caught:
            check(given)
        self.assertEqual(caught.exception.rule, rule)

    def test_what_stands_between_two_equal_names(self):
        wrong = task("u", [put("none", num(1))])
        self.decides(system(tasks=[task("t"), wrong, task("t")]), "cell")
        self.decides(system(tasks=[task("t"), task("t"), wrong]), "name")
        self.decides(system(tasks=[task("t", every=0), task("t")]), "size")
        f = operation("f", result=cell("none"))
        self.decides(system(objects=[shared("o", [], [f]), shared("o")]), "cell")
        self.decides(system(objects=[shared("o", [], [operation("e"), f, operation("e")])]), "cell")
        self.decides(system(objects=[shared("o", [], [operation("e"), operation("e"), f])]), "name")
        self.decides(system(objects=[shared("o", [("x", 0), ("y", 65), ("x", 0)])]), "size")
        self.decides(system(objects=[shared("o", [("x", 0), ("x", 0), ("y", 65)])]), "name")

    def test_a_loop_with_the_name_of_a_cell(self):
        loop = ("loop", "v", 2, None, [put("none", num(1))])
        self.decides(system(tasks=[task("t", [loop], [("v", 0)])]), "name")
        self.decides(system(tasks=[task("t", [put("none", num(1)), loop], [("v", 0)])]), "cell")
        self.decides(system(tasks=[task("t", [("loop", "v", 2, cell("none"), [])], [("v", 0)])]), "cell")
        self.decides(system(tasks=[task("t", [("loop", "v", 65, None, [])], [("v", 0)])]), "size")

    def test_numbers_ahead_of_the_first(self):
        self.decides(system(ports=[("in", "")] + [("out", f"q{n}") for n in range(9)]), "size")
        self.decides(system(name="", ports=[("out", f"q{n}") for n in range(9)]), "name")
        self.decides(system(ports=[("in", "")], objects=[shared(f"o{n}") for n in range(5)]), "name")
        self.decides(system(objects=[shared("", [("v", 0)], [operation("")])] * 5), "size")
        self.decides(system(objects=[shared("")], tasks=[task(f"t{n}") for n in range(9)]), "name")
        self.decides(system(tasks=[task("")] * 9), "size")
        self.decides(system(tasks=[task("")], interrupts=[interrupt("k", "o", "f")] * 3), "name")
        self.decides(system(interrupts=[interrupt("", "o", "f")] * 3), "size")
        self.decides(system(tasks=[task("t", [put("none", num(1))])] + [task(f"t{n}") for n in range(8)]), "size")
