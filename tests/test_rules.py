import copy
import unittest

from deadbeat.errors import RuleError
from deadbeat.parsing import parse_program
from deadbeat.rules import check
from deadbeat.tokens import RESERVED
from deadbeat.trees import depth, size
from tests.programs import ValidMaker, at, cell, interrupt, num, operation, put, shared, system, task
from tests.samples import OPERATORS, UNARY

LONGEST = 4194304
DECLARED = [("v", 0), ("a", 3)]
TWO_PORTS = [("in", "p"), ("out", "q")]


def with_task(body=(), cells=(), **more):
    """A program with one task."""
    return system(ports=TWO_PORTS, tasks=[task("t", body, cells, **more)])


def with_operation(body=(), *, fields=(), params=(), cells=(), result=None):
    """A program with one operation."""
    rows = [operation("f", params, cells, body, result)]
    return system(ports=TWO_PORTS, objects=[shared("o", fields, rows)])


def deep(many):
    """An expression of a depth."""
    e = cell("v")
    for _ in range(many - 1):
        e = ("neg", e)
    return e


def wide(many):
    """A balanced expression with a number of parts."""
    if many <= 2:
        return deep(many)
    left = (many - 1) // 2
    return ("+", wide(left), wide(many - 1 - left))


def nested_ifs(many, inside=()):
    body = list(inside)
    for _ in range(many):
        body = [("if", num(1), body, [])]
    return body


def nested_loops(many, inside=()):
    body = list(inside)
    for number in range(many):
        body = [("loop", f"i{number}", 2, None, body)]
    return body


class RulesTest(unittest.TestCase):
    def good(self, program):
        before = copy.deepcopy(program)
        self.assertIsNone(check(program))
        self.assertEqual(program, before)

    def bad(self, program, rule):
        before = copy.deepcopy(program)
        with self.assertRaises(RuleError) as caught:
            check(program)
        self.assertEqual(caught.exception.rule, rule)
        self.assertEqual(program, before)

    def judge(self, program, rule):
        """Checks a program that breaks a rule, or none if the rule is None."""
        if rule is None:
            self.good(program)
        else:
            self.bad(program, rule)


class ValidTest(RulesTest):
    def test_document_example(self):
        self.bad(("system", "s", [("in", "p")], [], [("task", "p", 9, 9, [], [])], []), "name")

    def test_empty(self):
        self.good(system())

    def test_random_programs(self):
        for seed in range(300):
            self.good(ValidMaker(seed).program())

    def test_parsed_text_with_a_long_chain(self):
        # Such a tree is too deep to be copied.
        chain = " + ".join(["1"] * 4000)
        with self.assertRaises(RuleError) as caught:
            check(parse_program(f"system s task t every 9 within 9 cell v v := {chain}; end"))
        self.assertEqual(caught.exception.rule, "size")


class CountsTest(RulesTest):
    def test_ports(self):
        for kind, other in (("in", "out"), ("out", "in")):
            ports = [(kind, f"p{n}") for n in range(9)]
            self.good(system(ports=ports[:8]))
            self.bad(system(ports=ports), "size")
            rest = [(other, f"q{n}") for n in range(9)]
            self.good(system(ports=ports[:8] + rest[:8]))
            self.bad(system(ports=ports[:8] + rest), "size")
            mixed = [row for pair in zip(ports, rest) for row in pair]
            self.good(system(ports=mixed[:16]))
            self.bad(system(ports=mixed[:17]), "size")

    def test_objects(self):
        objects = [shared(f"o{n}") for n in range(5)]
        self.good(system(objects=objects[:4]))
        self.bad(system(objects=objects), "size")

    def test_tasks(self):
        tasks = [task(f"t{n}") for n in range(9)]
        self.good(system(tasks=tasks[:8]))
        self.bad(system(tasks=tasks), "size")

    def test_interrupts(self):
        rows = [interrupt(f"k{n}", "o", "f") for n in range(3)]
        objects = [shared("o", [], [operation("f")])]
        self.good(system(objects=objects, interrupts=rows[:2]))
        self.bad(system(objects=objects, interrupts=rows), "size")

    def test_operations(self):
        rows = [operation(f"f{n}") for n in range(5)]
        self.good(system(objects=[shared("o", [], rows[:4]), shared("p", [], rows[:4])]))
        self.bad(system(objects=[shared("o", [], rows)]), "size")

    def test_fields_and_locals(self):
        cells = [(f"c{n}", n % 3) for n in range(17)]
        self.good(system(objects=[shared("o", cells[:16])]))
        self.bad(system(objects=[shared("o", cells)]), "size")
        self.good(with_operation(cells=cells[:16]))
        self.bad(with_operation(cells=cells), "size")
        self.good(with_operation(cells=cells[:16], fields=[(f"d{n}", 0) for n in range(16)], params=["x", "y"]))
        self.good(with_task(cells=cells[:16]))
        self.bad(with_task(cells=cells), "size")

    def test_params(self):
        self.good(with_operation(params=["x", "y", "z", "w"]))
        self.bad(with_operation(params=["x", "y", "z", "w", "u"]), "size")

    def test_sizes(self):
        for many, rule in ((-1, "size"), (0, None), (1, None), (63, None), (64, None), (65, "size"), (1000, "size")):
            self.judge(system(objects=[shared("o", [("c", many)])]), rule)
            self.judge(with_operation(cells=[("c", many)]), rule)
            self.judge(with_task(cells=[("c", many)]), rule)
            self.judge(with_task(cells=[("b", 0), ("c", many), ("d", 1)]), rule)

    def test_rounds(self):
        for count, rule in ((-1, "size"), (0, "size"), (1, None), (63, None), (64, None), (65, "size")):
            self.judge(with_task([("loop", "i", count, None, [])]), rule)
            self.judge(with_operation([("loop", "i", count, num(1), [])]), rule)

    def test_times(self):
        rows = [
            (1, 1, None), (LONGEST, LONGEST, None), (LONGEST, 1, None), (900, 899, None), (900, 900, None),
            (0, 0, "size"), (1, 0, "size"), (0, 1, "size"), (9, 10, "size"), (1, 2, "size"), (LONGEST + 1, 1, "size"),
            (LONGEST + 1, LONGEST + 1, "size"), (LONGEST, LONGEST + 1, "size"), (9, -1, "size"), (-1, -1, "size"),
        ]
        for every, within, rule in rows:
            self.judge(with_task(every=every, within=within), rule)
            objects = [shared("o", [], [operation("f")])]
            one = interrupt("k", "o", "f", every=every, within=within)
            self.judge(system(objects=objects, interrupts=[one]), rule)
            self.judge(system(objects=objects, interrupts=[interrupt("l", "o", "f"), one]), rule)


class BodyLimitsTest(RulesTest):
    def both(self, body, rule):
        """Judges a body in a task and in an operation."""
        self.judge(with_task(body, DECLARED), rule)
        self.judge(with_operation(body, fields=DECLARED), rule)
        self.judge(with_operation(body, cells=DECLARED), rule)

    def test_statements(self):
        one = put("v", num(1))
        self.both([one] * 200, None)
        self.both([one] * 201, "size")

    def test_statements_inside_others_count(self):
        one = put("v", num(1))
        for inside, rule in ((197, None), (198, "size")):
            half = inside // 2
            self.both([one, ("if", cell("v"), [one] * half, [one] * (inside - half)), one], rule)
            self.both([one, ("loop", "i", 2, None, [one] * inside), one], rule)
            self.both([("loop", "i", 2, None, [("if", cell("v"), [], [one] * inside)]), one], rule)
        self.both([("if", cell("v"), [], [])] * 200, None)
        self.both([("if", cell("v"), [], [])] * 201, "size")
        self.both([("loop", "i", 1, None, [])] * 201, "size")

    def test_each_body_has_its_own_limit(self):
        body = [put("v", num(1))] * 200
        tasks = [task("t", body, DECLARED), task("u", body, DECLARED)]
        operations = [operation("f", [], [], body), operation("g", [], [], body)]
        self.good(system(objects=[shared("o", DECLARED, operations)], tasks=tasks))

    def test_nested_lists(self):
        one = put("v", num(1))
        self.both(nested_ifs(7, [one]), None)
        self.both(nested_ifs(8, [one]), "size")
        self.both(nested_ifs(7), None)
        self.both(nested_ifs(8), "size")
        self.both(nested_ifs(3, nested_loops(4, [one])), None)
        self.both(nested_ifs(4, nested_loops(4, [one])), "size")
        self.both(nested_loops(4, nested_ifs(3, [one])), None)
        self.both(nested_loops(4, nested_ifs(4, [one])), "size")
        self.both([one] + nested_ifs(3, [one] + nested_ifs(4)), None)
        self.both([one] + nested_ifs(3, [one] + nested_ifs(5)), "size")

    def test_nested_lists_of_other(self):
        body = []
        for number in range(8):
            self.both(body, None)
            body = [("if", num(1), [], body)]
        self.both(body, "size")

    def test_nested_loops(self):
        self.both(nested_loops(4), None)
        self.both(nested_loops(5), "size")
        self.both(nested_loops(5, [put("v", num(1))]), "size")
        self.both(nested_loops(4) + nested_loops(4), None)
        self.both(nested_loops(3, [("loop", "x", 2, None, []), ("loop", "x", 2, None, [])]), None)

    def test_ifs_between_loops(self):
        two = [("loop", "c", 2, None, [("loop", "d", 2, None, [])])]
        four = [("loop", "x", 2, None, nested_ifs(1, [("loop", "y", 2, None, nested_ifs(1, two))]))]
        self.both(four, None)
        self.both([("loop", "e", 2, None, four)], "size")


class ExpressionLimitsTest(RulesTest):
    def everywhere(self, e, rule):
        """Judges an expression in all places but the arguments of calls."""
        for body in ([put("v", e)], [("if", e, [], [])], [("loop", "i", 2, e, [])], [("set", at("a", e), num(1))]):
            self.judge(with_task(body, DECLARED), rule)
            self.judge(with_operation(body, fields=DECLARED), rule)
            self.judge(with_task(nested_ifs(2, body), DECLARED), rule)
        self.judge(with_task([("write", "q", e)], DECLARED), rule)
        self.judge(with_task([("read", at("a", e), "p")], DECLARED), rule)
        self.judge(with_operation([], fields=DECLARED, result=e), rule)
        self.judge(self.calling(("call", at("a", e), "o", "f", [num(1)])), rule)

    def calling(self, statement):
        return system(objects=[shared("o", [], [operation("f", ["x"])])], tasks=[task("t", [statement], DECLARED)])

    def test_depth(self):
        self.everywhere(deep(6), None)
        self.everywhere(deep(7), "size")

    def test_depth_of_other_forms(self):
        for kind in OPERATORS:
            self.everywhere((kind, deep(5), num(1)), None)
            self.everywhere((kind, num(1), deep(5)), None)
            self.everywhere((kind, deep(6), num(1)), "size")
            self.everywhere((kind, num(1), deep(6)), "size")
        for kind in UNARY:
            self.everywhere((kind, deep(5)), None)
            self.everywhere((kind, deep(6)), "size")
        self.everywhere(at("a", deep(5)), None)
        self.everywhere(at("a", deep(6)), "size")

    def test_parts(self):
        for many, rule in ((39, None), (40, None), (41, "size")):
            self.assertEqual((size(wide(many)), depth(wide(many))), (many, 6))
            self.everywhere(wide(many), rule)

    def test_arguments(self):
        for e, rule in ((deep(1), None), (deep(4), None), (deep(5), "size"), (at("a", deep(3)), None),
                        (at("a", deep(4)), "size"), (("+", deep(3), deep(3)), None), (("+", deep(1), deep(4)), "size")):
            for place in (None, cell("v")):
                self.judge(self.calling(("call", place, "o", "f", [e])), rule)
            self.judge(self.calling(("if", num(1), [("call", None, "o", "f", [e])], [])), rule)
            inner = [operation("f", ["x"])]
            outer = [operation("g", [], DECLARED, [("call", None, "o", "f", [e])])]
            self.judge(system(objects=[shared("n", [], outer), shared("o", [], inner)]), rule)

    def test_depth_in_the_place_of_a_call(self):
        self.good(self.calling(("call", at("a", deep(6)), "o", "f", [deep(4)])))


class NamesTest(RulesTest):
    def everywhere(self, name, rule):
        """Judges a name in all places in which names are declared."""
        self.judge(system(name=name), rule)
        self.judge(system(ports=[("in", name)]), rule)
        self.judge(system(ports=[("out", name)]), rule)
        self.judge(system(objects=[shared(name)]), rule)
        self.judge(system(objects=[shared("o_", [(name, 0)])]), rule)
        self.judge(system(objects=[shared("o_", [(name, 2)])]), rule)
        self.judge(system(objects=[shared("o_", [], [operation(name)])]), rule)
        self.judge(with_operation(params=[name]), rule)
        self.judge(with_operation(cells=[(name, 0)]), rule)
        self.judge(with_operation([("loop", name, 2, None, [])]), rule)
        self.judge(system(tasks=[task(name)]), rule)
        self.judge(with_task(cells=[(name, 0)]), rule)
        self.judge(with_task([("loop", name, 2, None, [])]), rule)
        objects = [shared("o_", [], [operation("f_")])]
        self.judge(system(objects=objects, interrupts=[interrupt(name, "o_", "f_")]), rule)

    def test_names(self):
        for name in ("x", "Z", "x1", "x_", "a_b_c", "x" * 16, "A123456789012345", "x" + "_" * 15, "System", "END"):
            self.everywhere(name, None)

    def test_longer_names_with_reserved_words(self):
        for name in ("end_", "ends", "loop1", "inn", "i", "xor", "not", "o"):
            self.everywhere(name, None)

    def test_reserved_words(self):
        self.assertEqual(len(RESERVED), 23)
        for name in RESERVED:
            self.everywhere(name, "name")

    def test_wrong_names(self):
        wrong = ["", "1", "1x", "_", "_x", "x" * 17, "x" * 1000, " ", "x ", " x", "x y", "x-y", "x.y", "x\n", "a'",
                 "x[0]", "x#", "~", "x:", "x\x00", "\u00e4", "x\u00e9", "x\u0660", "\uff41", "\u0131x"]
        for name in wrong:
            self.everywhere(name, "name")

    def test_name_of_the_program(self):
        self.good(system(name="s", ports=[("in", "s")]))
        self.good(system(name="s", objects=[shared("s", [("s", 0)])]))
        self.good(system(name="s", tasks=[task("s", [("loop", "s", 2, None, [])])]))

    def test_equal_names_at_the_top(self):
        objects = [shared("o", [], [operation("f")])]
        tops = {
            "ports": [("in", "x")], "outs": [("out", "x")], "objects": [shared("x")], "tasks": [task("x")],
            "interrupts": [interrupt("x", "o", "f")],
        }

        def program(*kinds):
            rows = {kind: [row for one in kinds if one == kind for row in tops[one]] for kind in tops}
            return system(ports=rows["ports"] + rows["outs"], objects=objects + rows["objects"], tasks=rows["tasks"],
                          interrupts=rows["interrupts"])

        for kind in tops:
            self.good(program(kind))
            for other in tops:
                self.bad(program(kind, other), "name")

    def test_equal_names_that_are_not_neighbours(self):
        self.bad(system(ports=[("in", "x"), ("in", "y"), ("out", "x")]), "name")
        self.bad(system(tasks=[task("x"), task("y"), task("x")]), "name")
        self.bad(system(objects=[shared("x"), shared("y"), shared("x")]), "name")
        self.good(system(tasks=[task("x"), task("X")]))

    def test_equal_fields_and_operations(self):
        self.bad(system(objects=[shared("o", [("x", 0), ("x", 0)])]), "name")
        self.bad(system(objects=[shared("o", [("x", 0), ("y", 0), ("x", 4)])]), "name")
        self.good(system(objects=[shared("o", [("x", 0)]), shared("p", [("x", 0)])]))
        self.bad(system(objects=[shared("o", [], [operation("f"), operation("f")])]), "name")
        self.bad(system(objects=[shared("o", [], [operation("f"), operation("g"), operation("f", ["x"])])]), "name")
        self.good(system(objects=[shared("o", [], [operation("f")]), shared("p", [], [operation("f")])]))

    def test_names_of_different_kinds(self):
        rows = [operation("o", ["f"], [("p", 0)]), operation("x"), operation("t")]
        self.good(system(ports=[("in", "p")], objects=[shared("o", [("x", 0)], rows)],
                         tasks=[task("t", [("loop", "o", 2, None, [])], [("p", 0), ("t", 2)])]))

    def test_equal_names_in_an_operation(self):
        self.bad(with_operation(params=["x", "x"]), "name")
        self.bad(with_operation(params=["x", "y", "x"]), "name")
        self.bad(with_operation(params=["x"], cells=[("x", 0)]), "name")
        self.bad(with_operation(cells=[("x", 0), ("x", 2)]), "name")
        self.bad(with_operation(fields=[("x", 0)], params=["x"]), "name")
        self.bad(with_operation(fields=[("x", 3)], cells=[("x", 3)]), "name")

    def test_equal_names_in_a_task(self):
        self.bad(with_task(cells=[("x", 0), ("x", 0)]), "name")
        self.bad(with_task(cells=[("x", 0), ("y", 0), ("x", 3)]), "name")

    def test_loop_variables_with_the_names_of_cells(self):
        loop = [("loop", "x", 2, None, [])]
        self.bad(with_task(loop, [("x", 0)]), "name")
        self.bad(with_task(loop, [("x", 5)]), "name")
        self.bad(with_task(nested_ifs(3, loop), [("x", 0)]), "name")
        self.bad(with_operation(loop, params=["x"]), "name")
        self.bad(with_operation(loop, cells=[("x", 0)]), "name")
        self.bad(with_operation(loop, fields=[("x", 0)]), "name")
        self.good(with_operation(loop, fields=[("y", 0)], params=["z"], cells=[("w", 0)]))

    def test_equal_loop_variables(self):
        self.good(with_task([("loop", "i", 2, None, []), ("loop", "i", 3, None, [])]))
        self.good(with_task([("if", num(1), [("loop", "i", 2, None, [])], [("loop", "i", 2, None, [])])]))
        inner = ("loop", "i", 2, None, [])
        self.good(with_task([("loop", "j", 2, None, [inner, inner]), inner]))
        self.bad(with_task([("loop", "i", 2, None, [inner])]), "name")
        self.bad(with_task([("loop", "i", 2, None, [("loop", "j", 2, None, [("if", num(1), [], [inner])])])]), "name")

    def test_scopes_that_do_not_meet(self):
        cells = [("x", 0), ("y", 4)]
        self.good(system(tasks=[task("t", [], cells), task("u", [], cells)]))
        rows = [operation("f", ["z"], cells), operation("g", ["x"], [("z", 0)], [("loop", "y", 2, None, [])])]
        self.good(system(objects=[shared("o", [], rows)], tasks=[task("t", [("loop", "z", 2, None, [])], cells)]))
        self.good(system(objects=[shared("n", cells), shared("o", [], rows), shared("m", cells)]))


class CellsTest(RulesTest):
    def reading(self, e, rule, **more):
        """Judges an expression in all places in which expressions stand, with cells v and a."""
        fields = more.get("fields", DECLARED)
        for body in ([put("v", e)], [("set", at("a", e), num(1))], [("if", e, [], [])], [("loop", "i", 2, e, [])],
                     nested_ifs(2, nested_loops(2, [put("v", e)]))):
            self.judge(with_task(body, fields), rule)
            self.judge(with_operation(body, fields=fields), rule)
            self.judge(with_operation(body, cells=fields), rule)
        self.judge(with_task([("write", "q", e)], fields), rule)
        self.judge(with_task([("read", at("a", e), "p")], fields), rule)
        self.judge(with_operation(fields=fields, result=e), rule)
        objects = [shared("o", [], [operation("f", ["x", "y"])])]
        for given, place in (([e, num(1)], None), ([num(1), e], cell("v")), ([num(1), num(2)], at("a", e))):
            self.judge(system(objects=objects, tasks=[task("t", [("call", place, "o", "f", given)], fields)]), rule)

    def test_expressions(self):
        self.reading(cell("v"), None)
        self.reading(at("a", cell("v")), None)
        self.reading(cell("x"), "cell")
        self.reading(at("x", num(0)), "cell")
        self.reading(cell("a"), "cell")
        self.reading(at("v", num(0)), "cell")
        self.reading(cell("V"), "cell")

    def test_parts_of_expressions(self):
        for wrong in (cell("x"), cell("a"), at("x", num(0)), at("v", num(0)), at("a", cell("x"))):
            for kind in ("+", "and", "or", "mod", "~<"):
                self.reading((kind, wrong, num(1)), "cell")
                self.reading((kind, num(1), wrong), "cell")
            for kind in UNARY:
                self.reading((kind, wrong), "cell")
            self.reading(at("a", wrong), "cell")

    def test_names_of_other_things(self):
        for name in ("p", "q", "o", "t", "f", "s"):
            self.reading(cell(name), "cell")

    def test_arrays_of_one_cell(self):
        self.good(with_task([("set", at("a", num(9)), at("a", num(1)))], [("a", 1)]))
        self.bad(with_task([put("v", cell("a"))], [("a", 1), ("v", 0)]), "cell")

    def storing(self, place, rule, *, inside=None):
        """Judges a place of a set, a read and a call, inside a loop if there is a variable."""
        callee = shared("o", [], [operation("f")])
        cells = DECLARED
        for statement in (("set", place, num(1)), ("read", place, "p"), ("call", place, "o", "f", [])):
            body = [statement] if inside is None else [("loop", inside, 2, None, [("if", num(1), [statement], [])])]
            self.judge(system(ports=TWO_PORTS, objects=[callee], tasks=[task("t", body, cells)]), rule)
            if statement[0] != "read":
                own = shared("n", cells, [operation("g", ["x"], [], body)])
                self.judge(system(objects=[own, callee]), rule)
                own = shared("n", [], [operation("g", ["x"], cells, body)])
                self.judge(system(objects=[own, callee]), rule)

    def test_places(self):
        self.storing(cell("v"), None)
        self.storing(at("a", num(5)), None)
        self.storing(cell("w"), "cell")
        self.storing(at("w", num(5)), "cell")
        self.storing(cell("a"), "cell")
        self.storing(at("v", num(0)), "cell")

    def test_loop_variables_as_places(self):
        self.storing(cell("v"), None, inside="i")
        self.storing(at("a", cell("i")), None, inside="i")
        self.storing(cell("i"), "cell", inside="i")
        self.storing(at("i", num(0)), "cell", inside="i")
        self.storing(cell("i"), "cell")

    def test_parameters_as_places(self):
        self.good(with_operation([put("x", ("+", cell("x"), num(1)))], params=["x"]))
        self.bad(with_operation([("set", at("x", num(0)), num(1))], params=["x"]), "cell")
        self.bad(with_operation(params=["x"], result=at("x", num(0))), "cell")

    def test_a_call_without_a_place(self):
        objects = [shared("o", [], [operation("f")])]
        self.good(system(objects=objects, tasks=[task("t", [("call", None, "o", "f", [])])]))

    def test_the_whole_scope_of_an_operation(self):
        names = ["x", "y", "l", "m", "i", "j"]
        e = ("+", ("+", ("+", cell("x"), cell("y")), ("+", cell("l"), cell("m"))), ("+", cell("i"), cell("j")))
        body = [("loop", "i", 2, None, [("loop", "j", 2, cell("i"), [put("m", at("a", at("b", e)))])])]
        cells = [("l", 0), ("a", 2)]
        self.good(with_operation(body, fields=[("m", 0), ("b", 3)], params=["x", "y"], cells=cells))
        for name in names:
            self.bad(with_operation([put("z", cell(name))], fields=[("z", 0)]), "cell")

    def test_scopes_that_do_not_meet(self):
        body = [put("v", num(1))]
        self.bad(system(tasks=[task("t", [], DECLARED), task("u", body)]), "cell")
        rows = [operation("f", ["v"]), operation("g", [], [("v", 0)]), operation("h", [], [], body)]
        self.bad(system(objects=[shared("o", [], rows)]), "cell")
        self.bad(system(objects=[shared("n", DECLARED), shared("o", [], rows[2:])]), "cell")
        self.bad(system(objects=[shared("o", DECLARED)], tasks=[task("t", body)]), "cell")
        self.bad(with_operation(result=cell("l"), fields=[]), "cell")


class LoopVariablesTest(RulesTest):
    def judge_both(self, body, rule):
        self.judge(with_task(body, DECLARED), rule)
        self.judge(with_operation(body, fields=DECLARED), rule)

    def test_inside_the_loop(self):
        use = put("v", cell("i"))
        self.judge_both([("loop", "i", 2, None, [use])], None)
        self.judge_both([("loop", "i", 2, None, nested_ifs(2, [("loop", "j", 2, cell("i"), [use])]))], None)
        self.judge_both([("loop", "i", 2, None, [("set", at("a", cell("i")), num(1))])], None)
        self.judge_both([("loop", "i", 2, None, [put("v", at("i", num(0)))])], "cell")

    def test_in_the_expression_of_its_own_loop(self):
        self.judge_both([("loop", "i", 2, cell("i"), [])], "cell")
        self.judge_both([("loop", "i", 2, ("<", cell("i"), num(1)), [])], "cell")
        self.judge_both([("loop", "i", 2, None, [("loop", "j", 2, cell("j"), [])])], "cell")
        self.judge_both([("loop", "i", 2, None, [("loop", "j", 2, cell("i"), [])])], None)

    def test_behind_and_ahead_of_its_loop(self):
        loop, use = ("loop", "i", 2, None, []), put("v", cell("i"))
        self.judge_both([loop, use], "cell")
        self.judge_both([use, loop], "cell")
        self.judge_both([("if", num(1), [loop], [use])], "cell")
        self.judge_both([("if", num(1), [loop, use], [])], "cell")
        self.judge_both([("loop", "j", 2, None, [loop, use])], "cell")
        self.judge_both([("loop", "j", 2, None, [loop]), ("loop", "i", 2, None, [use])], None)
        self.judge_both([loop, put("i", num(1))], "cell")

    def test_in_the_result(self):
        self.bad(with_operation([("loop", "i", 2, None, [])], result=cell("i")), "cell")


class PortsTest(RulesTest):
    def test_in_a_task(self):
        for name, reading, writing in (("p", None, "port"), ("q", "port", None), ("r", "port", "port"),
                                       ("v", "port", "port"), ("t", "port", "port"), ("P", "port", "port")):
            for place in (cell("v"), at("a", num(1))):
                self.judge(with_task([("read", place, name)], DECLARED), reading)
                self.judge(with_task(nested_ifs(2, [("read", place, name)]), DECLARED), reading)
            self.judge(with_task([("write", name, num(1))], DECLARED), writing)
            self.judge(with_task(nested_loops(2, [("write", name, num(1))]), DECLARED), writing)

    def test_in_an_operation(self):
        for name in ("p", "q", "r"):
            for statement in (("read", cell("v"), name), ("write", name, num(1))):
                self.bad(with_operation([statement], fields=DECLARED), "port")
                self.bad(with_operation(nested_ifs(1, nested_loops(1, [statement])), cells=DECLARED), "port")


class CallsTest(RulesTest):
    def task_call(self, given, *, thing="o", called="f", params=("x", "y")):
        objects = [shared("n", [], [operation("g")]), shared("o", [], [operation("e"), operation("f", params)])]
        return system(ports=TWO_PORTS, objects=objects, tasks=[task("t", [("call", None, thing, called, given)])])

    def interrupt_call(self, given, *, thing="o", called="f", params=("x", "y")):
        program = self.task_call([], called="e", params=params)
        return system(objects=program[3], interrupts=[interrupt("k", thing, called, given)])

    def test_callees(self):
        for thing, called, rule in (("o", "f", None), ("o", "g", "call"), ("n", "f", "call"), ("m", "f", "call"),
                                    ("o", "h", "call"), ("p", "f", "call"), ("t", "f", "call"), ("f", "o", "call")):
            self.judge(self.task_call([num(1), num(2)], thing=thing, called=called), rule)
            self.judge(self.interrupt_call([1, 2], thing=thing, called=called), rule)

    def test_number_of_arguments(self):
        for many in range(5):
            params = ["x", "y", "z", "w"][:many]
            for given in range(7):
                rule = None if given == many else "call"
                self.judge(self.task_call([num(1)] * given, params=params), rule)
                self.judge(self.interrupt_call([1] * given, params=params), rule)

    def test_calls_of_operations(self):
        names = ["o0", "o1", "o2", "o3"]
        for own in range(4):
            for called in range(4):
                rows = [[operation("f", ["x"])] for _ in names]
                rows[own].append(operation("g", [], [], nested_ifs(1, [("call", None, names[called], "f", [num(1)])])))
                objects = [shared(name, [], operations) for name, operations in zip(names, rows)]
                self.judge(system(objects=objects), None if called > own else "call")

    def test_calls_of_its_own_object(self):
        rows = [operation("f"), operation("g", [], [], [("call", None, "o", "f", [])])]
        self.bad(system(objects=[shared("o", [], rows)]), "call")
        self.bad(system(objects=[shared("o", [], rows[::-1])]), "call")
        self.bad(with_operation([("call", None, "o", "f", [])]), "call")

    def test_calls_of_operations_with_wrong_arguments(self):
        later = shared("o", [], [operation("f", ["x"])])
        for given in ([], [num(1), num(2)]):
            early = shared("n", [], [operation("g", [], [], [("call", None, "o", "f", given)])])
            self.bad(system(objects=[early, later]), "call")
        for called in ("g", "n", "o"):
            early = shared("n", [], [operation("g", [], [], [("call", None, "o", called, [num(1)])])])
            self.bad(system(objects=[early, later]), "call")

    def test_tasks_call_all_objects(self):
        objects = [shared(f"o{n}", [], [operation("f")]) for n in range(4)]
        body = [("call", None, f"o{n}", "f", []) for n in range(4)]
        rows = [interrupt("k", "o0", "f"), interrupt("l", "o3", "f")]
        self.good(system(objects=objects, tasks=[task("t", body)], interrupts=rows))

    def test_an_object_without_operations(self):
        self.bad(system(objects=[shared("o")], tasks=[task("t", [("call", None, "o", "f", [])])]), "call")
        self.bad(system(objects=[shared("o")], interrupts=[interrupt("k", "o", "f")]), "call")
        self.bad(system(interrupts=[interrupt("k", "o", "f")]), "call")
