"""Points 13.1 to 13.6: the code of statements."""

import unittest

from deadbeat.layout import find_group, layout
from deadbeat.stmts import Coder, Target
from tests.programs import at, cell, interrupt, num, operation, put, shared, system, task
from tests.purity import frozen

UP = [("set", 2, 1), ("calc", "add", 1, 1, 2)]
BOX = shared("box", [("f", 0), ("g", 2)], [
    operation("none"),
    operation("four", ["p", "q", "r", "s"], [("a", 0)], [], cell("p")),
    operation("one", ["p"]),
])
LAST = shared("last", [], [operation("give", [], [], [], num(1)), operation("rest")])
PORTS = [("in", "i0"), ("out", "o0"), ("in", "i1"), ("out", "o1"), ("out", "o2")]
CELLS = [("a", 0), ("b", 0), ("v", 3)]
ENTRIES = {(0, 0): 40, (0, 1): 44, (0, 2): 48, (1, 0): 52, (1, 1): 56}
# Where the words of the task lie: f, g, g | none | p, q, r, s, a, result, back | p, back | result, back | back | the task.
A, B, V, LOOPS = 16, 17, 18, 21
CELLS_OF_TASK = [("a", A, 0), ("b", B, 0), ("v", V, 3)]


def program_with(body):
    return system(ports=PORTS, objects=[BOX, LAST], tasks=[task("t", body, CELLS), task("u", body, CELLS)],
                  interrupts=[interrupt("k", "box", "none")])


def target_for(body):
    program = program_with(body)
    target = Target(program, layout(program, 1))
    target.entries.update(ENTRIES)
    return target


def coded(body, start=0):
    """The code of a body of a task."""
    coder = Coder(target_for(body), ("task", 0), start)
    coder.body(body)
    return coder.code


def loop(name, count, e, *body):
    return ("loop", name, count, e, list(body))


class TargetTest(unittest.TestCase):
    def test_fields(self):
        program = program_with([put("a", num(1)), loop("i", 2, None)])
        groups = layout(program, 4)
        target = Target(program, groups)
        self.assertEqual((target.program, target.groups, target.entries, target.counter), (program, groups, {}, 0))

    def test_layout_of_this_test(self):
        group = find_group(target_for([]).groups, ("task", 0))
        self.assertEqual(group[3], [("a", A, 0), ("b", B, 0), ("v", V, 3)])

    def test_entries_are_its_own(self):
        program = program_with([])
        first, second = Target(program, layout(program, 4)), Target(program, layout(program, 4))
        first.entries[0, 0] = 7
        self.assertEqual(second.entries, {})

    def test_arguments_stay(self):
        body = [("if", num(1), [("call", None, "box", "one", [num(1)])], [loop("i", 2, None)]), loop("j", 2, None)]
        program = program_with(body)
        groups = layout(program, 4)
        before = frozen((program, groups))
        target = Target(program, groups)
        target.entries.update(ENTRIES)
        coder = Coder(target, ("task", 0), 0)
        coder.clear(CELLS_OF_TASK)
        coder.body(body)
        self.assertEqual(frozen((program, groups)), before)


class CoderTest(unittest.TestCase):
    def test_fields(self):
        target = target_for([])
        coder = Coder(target, ("task", 0), 7)
        self.assertEqual((coder.code, coder.start, coder.here()), ([], 7, 7))
        self.assertEqual(coder.names, {"a": (A, 0), "b": (B, 0), "v": (V, 3)})
        self.assertEqual(Coder(target, ("operation", 0, 1), 0).names,
                         {"p": (4, 0), "q": (5, 0), "r": (6, 0), "s": (7, 0), "a": (8, 0), "f": (0, 0), "g": (1, 2)})
        self.assertEqual(Coder(target, ("interrupt", 0), 0).names, {})

    def test_here(self):
        coder = Coder(target_for([]), ("task", 0), 100)
        coder.body([put("a", num(1))])
        self.assertEqual((coder.here(), coder.start), (102, 100))

    def test_body_returns_nothing(self):
        coder = Coder(target_for([]), ("task", 0), 0)
        self.assertIsNone(coder.body([put("a", num(1))]))
        self.assertIsNone(coder.clear([("a", A, 0)]))
        self.assertIsNone(coder.body([]))
        self.assertEqual(len(coder.code), 3)

    def test_arguments_stay(self):
        body = [("if", num(1), [("call", None, "box", "one", [num(1)])], [loop("i", 2, None, put("a", cell("i")))])]
        coder = Coder(target_for(body), ("task", 0), 0)
        before = frozen(body)
        coder.body(body)
        self.assertEqual(frozen(body), before)
        cells = [("a", A, 0), ("v", V, 3)]
        coder.clear(cells)
        self.assertEqual(cells, [("a", A, 0), ("v", V, 3)])

    def test_two_coders_share_no_code(self):
        target = target_for([])
        first, second = Coder(target, ("task", 0), 0), Coder(target, ("task", 1), 0)
        first.body([put("a", num(1))])
        first.names["z"] = (1, 0)
        self.assertEqual((second.code, "z" in second.names, "z" in Coder(target, ("task", 0), 0).names), ([], False, False))


class StatementTest(unittest.TestCase):
    def test_nothing(self):
        self.assertEqual(coded([]), [])

    def test_set(self):
        self.assertEqual(coded([put("a", num(7))]), [("set", 1, 7), ("store", 1, A)])
        self.assertEqual(coded([put("a", ("+", cell("a"), cell("b")))]),
                         [("load", 1, A), ("load", 2, B), ("calc", "add", 1, 1, 2), ("store", 1, A)])
        self.assertEqual(coded([("set", at("v", ("+", cell("a"), num(1))), cell("b"))]), [
            ("load", 1, B), ("load", 2, A), ("set", 3, 1), ("calc", "add", 2, 2, 3), ("storex", 1, 2, V, 3)])

    def test_several(self):
        self.assertEqual(coded([put("a", num(7)), put("b", num(8))]),
                         [("set", 1, 7), ("store", 1, A), ("set", 1, 8), ("store", 1, B)])

    def test_if_without_other(self):
        self.assertEqual(coded([("if", cell("a"), [put("b", num(1))], [])]),
                         [("load", 1, A), ("jzero", 1, 4), ("set", 1, 1), ("store", 1, B)])
        self.assertEqual(coded([("if", cell("a"), [], [])]), [("load", 1, A), ("jzero", 1, 2)])

    def test_if_with_other(self):
        self.assertEqual(coded([("if", cell("a"), [put("b", num(1))], [put("b", num(2))])]), [
            ("load", 1, A), ("jzero", 1, 5), ("set", 1, 1), ("store", 1, B), ("jump", 7), ("set", 1, 2), ("store", 1, B)])
        self.assertEqual(coded([("if", cell("a"), [], [put("b", num(2))])]),
                         [("load", 1, A), ("jzero", 1, 3), ("jump", 5), ("set", 1, 2), ("store", 1, B)])

    def test_if_nested_on_both_sides(self):
        inner = ("if", cell("b"), [put("a", num(1))], [put("a", num(2))])
        self.assertEqual(coded([("if", cell("a"), [inner], [inner, ("if", num(0), [], [])])], 10), [
            ("load", 1, A), ("jzero", 1, 20),
            ("load", 1, B), ("jzero", 1, 17), ("set", 1, 1), ("store", 1, A), ("jump", 19), ("set", 1, 2), ("store", 1, A),
            ("jump", 29),
            ("load", 1, B), ("jzero", 1, 25), ("set", 1, 1), ("store", 1, A), ("jump", 27), ("set", 1, 2), ("store", 1, A),
            ("set", 1, 0), ("jzero", 1, 29),
        ])

    def test_loop(self):
        self.assertEqual(coded([loop("i", 5, None, put("a", cell("i")))]), [
            ("store", 0, LOOPS), ("count", 0, 5), ("load", 1, LOOPS), ("store", 1, A), ("load", 1, LOOPS), *UP,
            ("store", 1, LOOPS), ("again", 0, 2)])

    def test_loop_with_an_expression(self):
        self.assertEqual(coded([loop("i", 64, cell("b")), put("a", num(1))], 3), [
            ("store", 0, LOOPS), ("count", 0, 64), ("load", 1, B), ("jzero", 1, 12), ("load", 1, LOOPS), *UP,
            ("store", 1, LOOPS), ("again", 0, 5), ("set", 1, 1), ("store", 1, A)])

    def test_expression_that_is_the_number_0(self):
        self.assertEqual(coded([loop("i", 1, num(0))])[2:4], [("set", 1, 0), ("jzero", 1, 9)])

    def test_loops_in_one_another_and_side_by_side(self):
        body = [loop("i", 2, None, loop("j", 3, None, put("a", cell("i"))), loop("j", 4, None)), loop("i", 5, None)]
        end = lambda n, head: [("load", 1, LOOPS + n), *UP, ("store", 1, LOOPS + n), ("again", n, head)]
        start = lambda n, many: [("store", 0, LOOPS + n), ("count", n, many)]
        self.assertEqual(coded(body), [
            *start(0, 2), *start(1, 3), ("load", 1, LOOPS), ("store", 1, A), *end(1, 4), *start(2, 4), *end(2, 13), *end(0, 2),
            *start(3, 5), *end(3, 25)])

    def test_loops_of_then_ahead_of_those_of_other(self):
        code = coded([("if", num(1), [loop("i", 2, None)], [loop("i", 3, None)]), loop("i", 4, None)])
        self.assertEqual([row for row in code if row[0] == "count"], [("count", 0, 2), ("count", 1, 3), ("count", 2, 4)])
        self.assertEqual([row[2] for row in code if row[:2] == ("store", 0)], [LOOPS, LOOPS + 1, LOOPS + 2])

    def test_names_of_loop_variables(self):
        target = target_for([loop("i", 2, None, put("a", cell("i"))), loop("i", 2, cell("a"), put("a", cell("i")))])
        coder = Coder(target, ("task", 0), 0)
        coder.body(target.program[4][0][5])
        self.assertEqual(coder.names, {"a": (A, 0), "b": (B, 0), "v": (V, 3)})
        self.assertIn(("load", 1, LOOPS + 1), coder.code)

    def test_names_in_a_loop(self):
        """They are looked at when the entry of an operation is looked up."""
        seen = []

        class Entries(dict):
            def __getitem__(self, key):
                seen.append(dict(coder.names))
                return super().__getitem__(key)

            def get(self, key, default=None):
                return self[key]

        visit = ("call", None, "box", "none", [])
        body = [visit, loop("i", 2, None, visit, loop("j", 2, None, visit), visit), visit]
        target = target_for(body)
        target.entries = Entries(ENTRIES)
        coder = Coder(target, ("task", 0), 0)
        coder.body(body)
        plain = {"a": (A, 0), "b": (B, 0), "v": (V, 3)}
        outer = {**plain, "i": (LOOPS, 0)}
        self.assertEqual(seen, [plain, outer, {**outer, "j": (LOOPS + 1, 0)}, outer, plain])

    def test_call_without_place(self):
        self.assertEqual(coded([("call", None, "box", "none", [])]), [("enter", 0), ("link", 40), ("leave", 0)])
        self.assertEqual(coded([("call", None, "last", "give", [])]), [("enter", 1), ("link", 52), ("leave", 1)])
        self.assertEqual(coded([("call", None, "last", "rest", [])]), [("enter", 1), ("link", 56), ("leave", 1)])

    def test_call_with_arguments(self):
        self.assertEqual(coded([("call", None, "box", "one", [cell("a")])]),
                         [("load", 1, A), ("enter", 0), ("store", 1, 11), ("link", 48), ("leave", 0)])
        deep = ("+", num(1), ("+", num(2), ("+", num(3), cell("a"))))
        self.assertEqual(coded([("call", None, "box", "four", [num(65536), cell("b"), at("v", num(2)), deep])]), [
            ("set", 1, 0), ("high", 1, 1), ("load", 2, B), ("set", 3, 2), ("loadx", 3, 3, V, 3),
            ("set", 4, 1), ("set", 5, 2), ("set", 6, 3), ("load", 7, A), ("calc", "add", 6, 6, 7), ("calc", "add", 5, 5, 6),
            ("calc", "add", 4, 4, 5),
            ("enter", 0), ("store", 1, 4), ("store", 2, 5), ("store", 3, 6), ("store", 4, 7), ("link", 44), ("leave", 0)])

    def test_call_with_a_place(self):
        self.assertEqual(coded([("call", cell("a"), "last", "give", [])]),
                         [("enter", 1), ("link", 52), ("load", 1, 13), ("leave", 1), ("store", 1, A)])
        self.assertEqual(coded([("call", cell("a"), "box", "none", [])]),
                         [("enter", 0), ("link", 40), ("set", 1, 0), ("leave", 0), ("store", 1, A)])
        self.assertEqual(coded([("call", at("v", cell("b")), "box", "one", [num(3)])]), [
            ("set", 1, 3), ("enter", 0), ("store", 1, 11), ("link", 48), ("set", 1, 0), ("leave", 0), ("load", 2, B),
            ("storex", 1, 2, V, 3)])
        self.assertEqual(coded([("call", at("v", cell("b")), "last", "give", [])]), [
            ("enter", 1), ("link", 52), ("load", 1, 13), ("leave", 1), ("load", 2, B), ("storex", 1, 2, V, 3)])

    def test_read(self):
        self.assertEqual(coded([("read", cell("a"), "i0")]), [("in", 1, 0), ("store", 1, A)])
        self.assertEqual(coded([("read", at("v", cell("a")), "i1")]), [("in", 1, 1), ("load", 2, A), ("storex", 1, 2, V, 3)])

    def test_write(self):
        self.assertEqual(coded([("write", "o0", num(7))]), [("set", 1, 7), ("out", 1, 0)])
        self.assertEqual(coded([("write", "o1", cell("a")), ("write", "o2", num(0))]),
                         [("load", 1, A), ("out", 1, 1), ("set", 1, 0), ("out", 1, 2)])

    def test_start(self):
        """All addresses in the code are those at which it lies."""
        body = [("if", cell("a"), [put("b", num(1))], [loop("i", 2, cell("a"))])]
        plain = coded(body)
        for start in (1, 16, 4000):
            moved = [row[:-1] + (row[-1] + start,) if row[0] in ("jump", "jzero", "again") else row for row in plain]
            self.assertEqual(coded(body, start), moved)


class CountersTest(unittest.TestCase):
    def test_body_in_parts(self):
        body = [loop("i", 2, None), loop("j", 3, None, loop("k", 4, None))]
        target = target_for(body)
        coder = Coder(target, ("task", 0), 0)
        coder.body(body[:1])
        self.assertEqual(target.counter, 1)
        coder.body(body[1:])
        self.assertEqual(target.counter, 3)
        self.assertEqual(coder.code, coded(body))

    def test_second_coder(self):
        body = [loop("i", 2, None), loop("j", 3, None)]
        target = target_for(body)
        Coder(target, ("task", 0), 0).body(body)
        second = Coder(target, ("task", 1), 50)
        second.clear([("v", 30, 3)])
        second.body(body)
        self.assertEqual([row for row in second.code if row[0] in ("count", "again")],
                         [("count", 2, 3), ("again", 2, 52), ("count", 3, 2), ("again", 3, 58), ("count", 4, 3), ("again", 4, 65)])
        self.assertEqual(target.counter, 5)
        variables = find_group(target.groups, ("task", 1))[4]
        self.assertEqual([row[2] for row in second.code if row[:2] == ("store", 0)], variables)

    def test_counter_of_the_target(self):
        target = target_for([])
        target.counter = 9
        coder = Coder(target, ("task", 0), 0)
        coder.clear([("v", V, 3)])
        self.assertEqual((coder.code[1], coder.code[-1], target.counter), (("count", 9, 3), ("again", 9, 2), 10))

    def test_statements_without_loops_use_no_counter(self):
        body = [put("a", num(1)), ("if", num(1), [], []), ("call", None, "box", "none", []), ("write", "o0", num(1))]
        target = target_for(body)
        Coder(target, ("task", 0), 0).body(body)
        self.assertEqual(target.counter, 0)


class ClearTest(unittest.TestCase):
    def cleared(self, cells, start=0):
        target = target_for([])
        coder = Coder(target, ("task", 0), start)
        coder.clear(cells)
        return coder.code, target.counter

    def test_nothing(self):
        self.assertEqual(self.cleared([]), ([], 0))

    def test_single_cells(self):
        self.assertEqual(self.cleared([("a", 5, 0), ("b", 16383, 0)]), ([("store", 0, 5), ("store", 0, 16383)], 0))

    def test_arrays(self):
        for many in (1, 2, 64):
            self.assertEqual(self.cleared([("a", 5, many)], 20), ([
                ("set", 1, 0), ("count", 0, many), ("storex", 0, 1, 5, many), *UP, ("again", 0, 22)], 1))

    def test_in_order(self):
        code, counter = self.cleared([("a", 5, 2), ("b", 9, 0), ("c", 10, 3)])
        self.assertEqual(code, [
            ("set", 1, 0), ("count", 0, 2), ("storex", 0, 1, 5, 2), *UP, ("again", 0, 2),
            ("store", 0, 9),
            ("set", 1, 0), ("count", 1, 3), ("storex", 0, 1, 10, 3), *UP, ("again", 1, 9)])
        self.assertEqual(counter, 2)


class FormTest(unittest.TestCase):
    def test_back_by_again_only(self):
        body = [loop("i", 2, cell("a"), ("if", cell("a"), [put("a", num(1))], [loop("j", 2, None)]))]
        for p, row in enumerate(coded(body)):
            if row[0] in ("jump", "jzero"):
                self.assertGreater(row[-1], p)
            if row[0] == "again":
                self.assertLess(row[-1], p)
