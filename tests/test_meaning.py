import copy
import random
import unittest

from deadbeat.meaning import Job, evaluate, fresh_fields, perform, port_number, run_alone
from tests import oracle
from tests.programs import (
    EDGE_WORDS, ValidMaker, at, cell, interrupt, num, operation, put, shared, system, task,
)
from tests.samples import WORDS

TOP = 4294967295


def one_operation(body=(), *, fields=(), params=(), cells=(), result=None):
    """A program with one operation."""
    return system(objects=[shared("o", fields, [operation("f", params, cells, body, result)])])


def result_of(body, result, *, params=(), cells=(), given=()):
    """The result of an operation whose object has no fields."""
    program = one_operation(body, params=params, cells=cells, result=result)
    return perform(program, fresh_fields(program), 0, 0, list(given))[0]


class FreshFieldsTest(unittest.TestCase):
    def test_sizes(self):
        objects = [shared("o", [("a", 0), ("b", 1), ("c", 2), ("d", 64)]), shared("p"), shared("q", [("a", 3)])]
        self.assertEqual(fresh_fields(system(objects=objects)), [[[0], [0], [0, 0], [0] * 64], [], [[0, 0, 0]]])

    def test_no_objects(self):
        self.assertEqual(fresh_fields(system()), [])

    def test_results_share_no_list(self):
        program = system(objects=[shared("o", [("a", 2), ("b", 2)]), shared("p", [("a", 2)])])
        fields = fresh_fields(program)
        fields[0][0][0] = 7
        self.assertEqual(fields, [[[7, 0], [0, 0]], [[0, 0]]])
        fields[0].clear()
        self.assertEqual(fresh_fields(program), [[[0, 0], [0, 0]], [[0, 0]]])


class EvaluateTest(unittest.TestCase):
    def check(self, e, word, **names):
        before = copy.deepcopy(names)
        found = evaluate(e, names)
        self.assertEqual(found, word)
        self.assertIs(type(found), int)
        self.assertEqual(names, before)

    def test_leaves(self):
        for word in WORDS:
            self.check(num(word), word)
            self.check(cell("v"), word, v=[word], w=[9])

    def test_indexes(self):
        for index, word in ((0, 7), (1, 8), (2, 9), (3, 7), (4, 8), (5, 9), (6, 7), (TOP, 7), (TOP - 1, 9)):
            self.check(at("a", num(index)), word, a=[7, 8, 9])
            self.check(at("a", cell("i")), word, a=[7, 8, 9], i=[index])
        self.check(at("a", num(64)), 0, a=list(range(64)))
        self.check(at("a", num(63)), 63, a=list(range(64)))
        self.check(at("a", num(TOP)), 5, a=[5])

    def test_index_of_an_index(self):
        self.check(at("a", at("b", at("a", num(1)))), 30, a=[10, 2, 30], b=[0, 1, 5, 7])

    def test_every_operator(self):
        examples = [
            ("+", TOP, 2, 1), ("-", 1, 2, TOP), ("*", 65537, 65537, 131073), ("/", 17, 5, 3), ("/", 17, 0, 0),
            ("mod", 17, 5, 2), ("mod", 17, 0, 17), ("&", 12, 10, 8), ("|", 12, 10, 14), ("^", 12, 10, 6),
            ("<<", 3, 31, 2147483648), ("<<", 3, 33, 6), (">>", TOP, 31, 1), (">>", 8, 34, 2), ("<", 1, TOP, 1),
            ("<", 2, 2, 0), ("<=", 2, 2, 1), ("<=", TOP, 1, 0), ("~<", 1, TOP, 0), ("~<", TOP, 1, 1),
            ("~<=", TOP, TOP, 1), ("~<=", 0, 2147483648, 0), ("==", 4, 4, 1), ("==", 4, 5, 0), ("!=", 4, 4, 0),
            ("!=", 4, 5, 1), ("and", 4, 8, 1), ("and", 4, 0, 0), ("and", 0, 4, 0), ("or", 0, 8, 1), ("or", 8, 0, 1),
            ("or", 0, 0, 0),
        ]
        for operator, a, b, word in examples:
            self.check((operator, num(a), num(b)), word)
            self.check((operator, cell("x"), at("y", num(1))), word, x=[a], y=[3, b])
        for operator, a, word in (("neg", 1, TOP), ("neg", 0, 0), ("inv", 0, TOP), ("inv", 12, TOP - 12), ("not", 0, 1),
                                  ("not", 7, 0)):
            self.check((operator, num(a)), word)
            self.check((operator, cell("x")), word, x=[a])

    def test_left_and_right(self):
        e = ("-", ("-", num(100), cell("x")), ("-", cell("x"), ("/", num(40), cell("x"))))
        self.check(e, 100 - 8 - (8 - 5), x=[8])

    def test_deep_expressions(self):
        e, chain = cell("x"), cell("x")
        for _ in range(3000):
            e = ("inv", e)
            chain = ("+", chain, num(1))
        self.check(e, 5, x=[5])
        self.check(chain, 3005, x=[5])

    def test_random_expressions(self):
        for seed in range(300):
            maker = ValidMaker(seed)
            names = {"a": [1, 2, 3], "b": [9], "v": [maker.random.choice(EDGE_WORDS)], "i": [2]}
            e = maker.expression({"a": "at", "b": "at", "v": "cell", "i": "loop"}, 6)
            self.check(e, oracle.value(e, names), **names)


class StatementsTest(unittest.TestCase):
    def test_cells_and_arrays(self):
        body = [("set", at("a", num(4)), num(7)), put("v", at("a", num(1))), ("set", at("a", cell("v")), cell("v"))]
        self.assertEqual(result_of(body, cell("v"), cells=[("v", 0), ("a", 3)]), 7)
        self.assertEqual(result_of(body, at("a", num(1)), cells=[("v", 0), ("a", 3)]), 7)
        self.assertEqual(result_of(body, at("a", num(0)), cells=[("v", 0), ("a", 3)]), 0)

    def test_index_at_and_beyond_the_size(self):
        for index, where in ((0, 0), (2, 2), (3, 0), (5, 2), (TOP, 0), (TOP - 1, 2)):
            for k in range(3):
                body = [("set", at("a", num(index)), num(9))]
                self.assertEqual(result_of(body, at("a", num(k)), cells=[("a", 3)]), 9 if k == where else 0)

    def test_index_from_the_array_itself(self):
        first = at("a", num(0))
        body = [("set", at("a", first), num(2)), ("set", at("a", first), ("+", first, num(3)))]
        self.assertEqual([result_of(body, at("a", num(k)), cells=[("a", 3)]) for k in range(3)], [2, 0, 5])

    def test_if(self):
        for word, chosen in ((0, 20), (1, 10), (2, 10), (TOP, 10), (2147483648, 10)):
            body = [("if", num(word), [put("v", num(10))], [put("v", num(20))])]
            self.assertEqual(result_of(body, cell("v"), cells=[("v", 0)]), chosen)
            body = [put("v", num(5)), ("if", num(word), [put("v", num(10))], [])]
            self.assertEqual(result_of(body, cell("v"), cells=[("v", 0)]), 10 if word else 5)
            body = [put("v", num(5)), ("if", num(word), [], [put("v", num(10))])]
            self.assertEqual(result_of(body, cell("v"), cells=[("v", 0)]), 5 if word else 10)

    def test_order_of_statements(self):
        def step(n):
            return put("v", ("+", ("*", cell("v"), num(10)), num(n)))

        body = [step(1), ("if", num(1), [step(2), step(3)], []), ("loop", "i", 2, None, [step(4), step(5)]), step(6)]
        self.assertEqual(result_of(body, cell("v"), cells=[("v", 0)]), 12345456)

    def test_rounds(self):
        for count in (1, 2, 63, 64):
            body = [("loop", "i", count, None, [put("v", ("+", cell("v"), num(1)))])]
            self.assertEqual(result_of(body, cell("v"), cells=[("v", 0)]), count)

    def test_loop_variable_in_each_round(self):
        body = [("loop", "i", 5, None, [("set", at("a", cell("i")), ("+", num(10), cell("i")))])]
        found = [result_of(body, at("a", num(k)), cells=[("a", 6)]) for k in range(6)]
        self.assertEqual(found, [10, 11, 12, 13, 14, 0])

    def test_while_ends_in_the_first_round(self):
        body = [("loop", "i", 5, num(0), [put("v", num(1))]), put("w", num(2))]
        self.assertEqual(result_of(body, ("+", cell("v"), cell("w")), cells=[("v", 0), ("w", 0)]), 2)

    def test_while_ends_in_a_later_round(self):
        for limit in range(8):
            body = [("loop", "i", 5, ("<", cell("v"), num(limit)), [put("v", ("+", cell("v"), num(1)))])]
            self.assertEqual(result_of(body, cell("v"), cells=[("v", 0)]), min(limit, 5))

    def test_while_is_evaluated_before_each_round_only(self):
        # The value becomes 0 within the round, which goes on to its end.
        body = [("loop", "i", 9, ("not", cell("v")), [put("v", num(1)), put("w", ("+", cell("w"), num(1)))])]
        self.assertEqual(result_of(body, cell("w"), cells=[("v", 0), ("w", 0)]), 1)

    def test_while_with_other_words_than_1(self):
        body = [put("v", num(3)), ("loop", "i", 64, cell("v"), [put("v", ("-", cell("v"), num(1))),
                                                             put("w", ("+", cell("w"), num(1)))])]
        self.assertEqual(result_of(body, cell("w"), cells=[("v", 0), ("w", 0)]), 3)

    def test_nested_loops(self):
        step = put("v", ("+", ("*", cell("v"), num(3)), ("+", cell("i"), cell("j"))))
        body = [("loop", "i", 3, None, [("loop", "j", 4, ("<=", cell("i"), num(1)), [step]), put("w", cell("i"))])]
        expected = 0
        for i in range(2):
            for j in range(4):
                expected = expected * 3 + i + j
        self.assertEqual(result_of(body, cell("v"), cells=[("v", 0), ("w", 0)]), expected)
        self.assertEqual(result_of(body, cell("w"), cells=[("v", 0), ("w", 0)]), 2)

    def test_a_loop_begins_anew(self):
        add = put("v", ("+", cell("v"), cell("i")))
        body = [("loop", "i", 4, None, [add]), ("loop", "i", 3, None, [add]),
                ("loop", "j", 2, None, [("loop", "i", 3, None, [add])])]
        self.assertEqual(result_of(body, cell("v"), cells=[("v", 0)]), 6 + 3 + 3 + 3)


class PerformTest(unittest.TestCase):
    def test_document_example(self):
        give = operation("up", ["n"], [], [put("t", ("+", cell("t"), cell("n")))], cell("t"))
        program = system(objects=[shared("o", [("t", 0)], [give])])
        self.assertEqual(perform(program, fresh_fields(program), 0, 0, [5]), (5, [[[5]]]))
        self.assertEqual(perform(program, [[[7]]], 0, 0, [TOP]), (6, [[[6]]]))

    def test_without_a_result(self):
        self.assertEqual(perform(one_operation([put("v", num(4))], fields=[("v", 0)]), [[[1]]], 0, 0, []), (0, [[[4]]]))

    def test_parameters(self):
        e = ("-", ("*", cell("w"), num(1000)), ("-", ("*", cell("x"), num(100)), ("-", cell("y"), cell("z"))))
        given = [9, 3, 40, 7]
        self.assertEqual(result_of([], e, params=["w", "x", "y", "z"], given=given), 9000 - (300 - (40 - 7)))
        body = [put("x", ("+", cell("x"), num(1))), put("v", cell("x"))]
        self.assertEqual(result_of(body, cell("v"), params=["x"], cells=[("v", 0)], given=[TOP]), 0)

    def test_locals_are_zero_in_every_call(self):
        body = [put("l", ("+", cell("l"), num(1))), ("set", at("m", num(1)), ("+", at("m", num(1)), cell("l"))),
                put("t", ("+", cell("t"), at("m", num(1))))]
        program = one_operation(body, fields=[("t", 0)], cells=[("l", 0), ("m", 2)], result=at("m", num(1)))
        fields = fresh_fields(program)
        for number in range(1, 4):
            result, fields = perform(program, fields, 0, 0, [])
            self.assertEqual((result, fields), (1, [[[number]]]))

    def test_operations_with_the_same_names(self):
        rows = [operation("f", ["x"], [("l", 0)], [put("l", cell("x"))], cell("l")),
                operation("g", ["l"], [("x", 2)], [], ("+", cell("l"), at("x", num(0))))]
        program = system(objects=[shared("o", [("v", 0)], rows)])
        self.assertEqual(perform(program, [[[3]]], 0, 0, [8]), (8, [[[3]]]))
        self.assertEqual(perform(program, [[[3]]], 0, 1, [8]), (8, [[[3]]]))

    def test_fields_of_the_own_object(self):
        rows = [operation("f", [], [], [("set", at("v", num(1)), num(6))], at("v", num(0)))]
        program = system(objects=[shared("n", [("v", 2)]), shared("o", [("u", 0), ("v", 2)], rows)])
        self.assertEqual(perform(program, [[[1, 2]], [[3], [4, 5]]], 1, 0, []), (4, [[[1, 2]], [[3], [4, 6]]]))

    def chain(self):
        """Three objects; the operations of the first two call those of later ones."""
        add = put("t", ("+", cell("t"), cell("n")))
        last = operation("add", ["n"], [("l", 0)], [add, put("l", ("+", cell("l"), num(1)))],
                         ("+", cell("t"), cell("l")))
        middle = operation("twice", ["n"], [], [
            ("call", cell("u"), "last", "add", [cell("n")]),
            ("call", at("w", cell("u")), "last", "add", [("*", cell("n"), num(10))]),
            ("call", None, "last", "add", [num(1000)]),
        ])
        first = operation("go", [], [("r", 0)], [
            ("call", cell("r"), "middle", "twice", [num(3)]), put("v", cell("r")),
            ("loop", "i", 2, None, [("if", cell("i"), [("call", cell("v"), "last", "add", [cell("i")])], [])]),
        ], ("+", cell("v"), num(1)))
        return system(objects=[
            shared("first", [("v", 0)], [first]), shared("middle", [("u", 0), ("w", 3)], [middle]),
            shared("last", [("t", 0)], [last]),
        ])

    def test_operations_that_call_others(self):
        program = self.chain()
        self.assertEqual(perform(program, fresh_fields(program), 2, 0, [3]), (4, [[[0]], [[0], [0, 0, 0]], [[3]]]))
        self.assertEqual(perform(program, fresh_fields(program), 1, 0, [3]),
                         (0, [[[0]], [[4], [0, 34, 0]], [[1033]]]))
        self.assertEqual(perform(program, fresh_fields(program), 0, 0, []),
                         (1036, [[[1035]], [[4], [0, 34, 0]], [[1034]]]))

    def test_calls_take_effect_at_once(self):
        count = operation("count", [], [], [put("n", ("+", cell("n"), num(1)))], cell("n"))
        body = [("call", at("a", num(k)), "later", "count", []) for k in (0, 2, 1)]
        program = system(objects=[shared("o", [("a", 3)], [operation("f", [], [], body)]),
                                  shared("later", [("n", 0)], [count])])
        self.assertEqual(perform(program, fresh_fields(program), 0, 0, []), (0, [[[1, 3, 2]], [[3]]]))

    def test_arguments_of_calls(self):
        sub = operation("sub", ["x", "y"], [], [], ("-", cell("x"), cell("y")))
        body = [("call", cell("x"), "o", "sub", [("+", cell("y"), num(1)), cell("x")])]
        early = operation("f", ["x", "y"], [], body, cell("x"))
        program = system(objects=[shared("n", [], [early]), shared("o", [], [sub])])
        self.assertEqual(perform(program, [[], []], 0, 0, [4, 9]), (6, [[], []]))

    def test_result_of_an_operation_without_one(self):
        body = [put("v", num(5)), ("call", cell("v"), "o", "g", [])]
        program = system(objects=[shared("n", [], [operation("f", [], [("v", 0)], body, cell("v"))]),
                                  shared("o", [], [operation("g")])])
        self.assertEqual(perform(program, [[], []], 0, 0, []), (0, [[], []]))

    def test_fields_that_are_passed_stay(self):
        program = self.chain()
        fields, given = [[[5]], [[6], [7, 8, 9]], [[10]]], [3]
        before, source = copy.deepcopy(fields), copy.deepcopy(program)
        _, found = perform(program, fields, 1, 0, given)
        self.assertEqual((fields, given, program), (before, [3], source))
        found[0][0][0] = 99
        found[2].clear()
        self.assertEqual(fields, before)
        self.assertEqual(perform(program, fields, 1, 0, given)[1][0], [[5]])

    def test_random_operations(self):
        tried = 0
        for seed in range(300):
            maker = ValidMaker(seed)
            program = maker.program()
            for thing, row in enumerate(program[3]):
                for called, op in enumerate(row[3]):
                    fields = [[[maker.random.choice(EDGE_WORDS) for _ in words] for words in rows]
                              for rows in fresh_fields(program)]
                    given = [maker.random.choice(EDGE_WORDS) for _ in op[2]]
                    changed = copy.deepcopy(fields)
                    result = oracle.call(program, changed, thing, called, given)
                    before = copy.deepcopy(fields)
                    self.assertEqual(perform(program, fields, thing, called, given), (result, changed))
                    self.assertEqual(fields, before)
                    tried += 1
        self.assertGreater(tried, 500)


class PortNumberTest(unittest.TestCase):
    def test_numbers(self):
        program = system(ports=[("out", "a"), ("in", "b"), ("in", "c"), ("out", "d"), ("out", "e"), ("in", "f")])
        self.assertEqual([port_number(program, "in", name) for name in "bcf"], [0, 1, 2])
        self.assertEqual([port_number(program, "out", name) for name in "ade"], [0, 1, 2])

    def test_eight_of_each_kind(self):
        program = system(ports=[(kind, f"{kind}_{n}") for n in range(8) for kind in ("in", "out")])
        for number in range(8):
            self.assertEqual(port_number(program, "in", f"in_{number}"), number)
            self.assertEqual(port_number(program, "out", f"out_{number}"), number)


class JobTest(unittest.TestCase):
    def program(self, body, cells=()):
        """A program with ports, objects and a task in third place."""
        echo = operation("echo", ["x", "y"], [], [], cell("x"))
        objects = [shared("n", [], [operation("none")]), shared("o", [], [operation("e"), echo])]
        ports = [("in", "in0"), ("out", "out0"), ("out", "out1"), ("in", "in1"), ("out", "out2")]
        rows = [interrupt("k", "n", "none"), interrupt("l", "o", "echo", [7, TOP])]
        return system(ports=ports, objects=objects, tasks=[task("t"), task("u"), task("w", body, cells)],
                      interrupts=rows)

    def steps(self, job, answers):
        """The actions of a job that gets these answers, and the one at which it stands then."""
        found = []
        for word in answers:
            found.append(job.action())
            job.answer(word)
        return found + [job.action()]

    def test_every_form(self):
        body = [
            ("read", cell("v"), "in1"), ("write", "out2", cell("v")), ("write", "out0", num(5)),
            ("call", None, "n", "none", []), ("call", cell("v"), "o", "echo", [cell("v"), ("neg", num(1))]),
            ("write", "out1", cell("v")), ("read", at("a", cell("v")), "in0"), ("write", "out1", at("a", num(2))),
        ]
        job = Job(self.program(body, [("v", 0), ("a", 3)]), 2)
        self.assertEqual(self.steps(job, [30, 0, 0, 9, 5, 0, 44, 0]), [
            ("read", 1), ("write", 2, 30), ("write", 0, 5), ("call", 0, 0, []), ("call", 1, 1, [30, TOP]),
            ("write", 1, 5), ("read", 0), ("write", 1, 44), ("done",),
        ])

    def test_the_same_action_until_it_is_answered(self):
        body = [("call", cell("v"), "o", "echo", [num(1), num(2)]), ("write", "out0", cell("v")),
                ("read", cell("v"), "in0"), ("write", "out0", cell("v"))]
        job = Job(self.program(body, [("v", 0)]), 2)
        for action, word in ((("call", 1, 1, [1, 2]), 9), (("write", 0, 9), 6), (("read", 0), 8), (("write", 0, 8), 1),
                             (("done",), 0)):
            for _ in range(3):
                self.assertEqual(job.action(), action)
            self.assertIsNone(job.answer(word))

    def test_answers_after_done(self):
        job = Job(self.program([("write", "out0", num(1))]), 2)
        self.assertEqual(self.steps(job, [0, 1, 2, 3]), [("write", 0, 1)] + [("done",)] * 4)

    def test_answer_of_a_write_is_ignored(self):
        body = [("read", cell("v"), "in0"), ("write", "out0", num(1)), ("write", "out0", cell("v"))]
        job = Job(self.program(body, [("v", 0)]), 2)
        self.assertEqual(self.steps(job, [7, 99]), [("read", 0), ("write", 0, 1), ("write", 0, 7)])

    def test_answer_of_a_call_without_a_place_is_dropped(self):
        body = [("read", cell("v"), "in0"), ("call", None, "n", "none", []), ("write", "out0", cell("v"))]
        job = Job(self.program(body, [("v", 0)]), 2)
        self.assertEqual(self.steps(job, [7, 99]), [("read", 0), ("call", 0, 0, []), ("write", 0, 7)])

    def test_index_of_a_place(self):
        body = [("read", at("a", at("a", num(0))), "in0"), ("read", at("a", at("a", num(0))), "in0"),
                ("call", at("a", ("+", at("a", num(2)), num(1))), "n", "none", [])]
        body += [("write", "out0", at("a", num(k))) for k in range(3)]
        job = Job(self.program(body, [("a", 3)]), 2)
        self.assertEqual(self.steps(job, [5, 8, 6, 0, 0, 0])[3:], [
            ("write", 0, 6), ("write", 0, 0), ("write", 0, 8), ("done",)])

    def test_arguments_are_evaluated_before_the_call(self):
        body = [("call", cell("v"), "o", "echo", [cell("v"), cell("v")]),
                ("call", cell("v"), "o", "echo", [cell("v"), ("+", cell("v"), num(1))])]
        job = Job(self.program(body, [("v", 0)]), 2)
        self.assertEqual(self.steps(job, [4]), [("call", 1, 1, [0, 0]), ("call", 1, 1, [4, 5])])

    def test_locals_and_loops(self):
        body = [("loop", "i", 3, ("!=", cell("v"), num(8)), [("read", cell("v"), "in0"), ("write", "out0", cell("i"))]),
                ("write", "out1", cell("v"))]
        job = Job(self.program(body, [("v", 0)]), 2)
        read = ("read", 0)
        self.assertEqual(self.steps(job, [1, 0, 1, 0, 1, 0, 0]), [
            read, ("write", 0, 0), read, ("write", 0, 1), read, ("write", 0, 2), ("write", 1, 1), ("done",)])
        job = Job(self.program(body, [("v", 0)]), 2)
        self.assertEqual(self.steps(job, [1, 0, 8, 0, 0]), [
            read, ("write", 0, 0), read, ("write", 0, 1), ("write", 1, 8), ("done",)])

    def test_actions_in_nested_statements(self):
        write = ("write", "out0", ("+", ("*", cell("i"), num(10)), cell("j")))
        choice = ("if", cell("i"), [("loop", "j", 2, None, [write])], [write_1(3)])
        body = [("loop", "i", 2, None, [choice, write_1(4)])]
        job = Job(self.program(body), 2)
        self.assertEqual(self.steps(job, [0] * 5), [
            ("write", 1, 3), ("write", 1, 4), ("write", 0, 10), ("write", 0, 11), ("write", 1, 4), ("done",)])

    def test_a_task_without_statements(self):
        self.assertEqual(Job(self.program([]), 0).action(), ("done",))
        self.assertEqual(Job(self.program([], [("v", 0)]), 2).action(), ("done",))
        self.assertEqual(Job(self.program([("loop", "i", 64, None, [])]), 2).action(), ("done",))

    def test_interrupts(self):
        self.assertEqual(self.steps(Job(self.program([]), 3), [5, 6]), [("call", 0, 0, []), ("done",), ("done",)])
        self.assertEqual(self.steps(Job(self.program([]), 4), [5]), [("call", 1, 1, [7, TOP]), ("done",)])

    def test_two_jobs_of_a_task(self):
        body = [("read", cell("v"), "in0"), ("write", "out0", cell("v")), ("write", "out0", at("a", num(0)))]
        program = self.program(body, [("v", 0), ("a", 2)])
        one, two = Job(program, 2), Job(program, 2)
        one.answer(5)
        self.assertEqual(two.action(), ("read", 0))
        two.answer(6)
        self.assertEqual((one.action(), two.action()), (("write", 0, 5), ("write", 0, 6)))
        self.assertEqual(Job(program, 2).action(), ("read", 0))

    def test_locals_are_zero_in_every_job(self):
        body = [("write", "out0", cell("v")), put("v", num(3)), ("set", at("a", num(1)), num(4)),
                ("write", "out0", at("a", num(1)))]
        program = self.program(body, [("v", 0), ("a", 2)])
        for _ in range(3):
            self.assertEqual(self.steps(Job(program, 2), [0]), [("write", 0, 0), ("write", 0, 4)])

    def test_actions_share_no_list(self):
        program = self.program([("call", None, "o", "echo", [num(1), num(2)])])
        for who, given in ((2, [1, 2]), (4, [7, TOP])):
            job = Job(program, who)
            job.action()[3].append(5)
            job.action()[3].clear()
            self.assertEqual(job.action(), ("call", 1, 1, given))
        self.assertEqual(program[5][1][6], [7, TOP])

    def test_a_program_that_is_changed_later(self):
        call = ("call", None, "o", "echo", [num(1), num(2)])
        program = self.program([("if", num(1), [call, call], []), ("loop", "i", 2, None, [call]), call])
        job, other = Job(program, 2), Job(program, 4)
        call[4].clear()
        body = program[4][2][5]
        body[0][2].clear()
        body[1][4].clear()
        body.clear()
        program[5][1][6].clear()
        program[3].clear()
        self.assertEqual(self.steps(job, [0] * 5), [("call", 1, 1, [1, 2])] * 5 + [("done",)])
        self.assertEqual(other.action(), ("call", 1, 1, [7, TOP]))


def write_1(word):
    return ("write", "out1", num(word))


class RunAloneTest(unittest.TestCase):
    def program(self):
        add = operation("add", ["n"], [], [put("t", ("+", cell("t"), cell("n")))], cell("t"))
        body = [("read", cell("v"), "b"), ("call", cell("v"), "o", "add", [cell("v")]), ("write", "q", cell("v")),
                ("read", cell("v"), "b"), ("write", "p", cell("v")), ("call", None, "o", "add", [num(1)])]
        return system(
            ports=[("out", "p"), ("in", "a"), ("in", "b"), ("out", "q")], objects=[shared("o", [("t", 0)], [add])],
            tasks=[task("t"), task("u", body, [("v", 0)])], interrupts=[interrupt("k", "o", "add", [40])])

    def test_a_task(self):
        actions, fields, left = run_alone(self.program(), 1, [[[100]]], [[1, 2], [3, 4, 5]])
        self.assertEqual(actions, [
            ("read", 1, 3), ("call", 0, 0, [3], 103), ("write", 1, 103), ("read", 1, 4), ("write", 0, 4),
            ("call", 0, 0, [1], 104), ("done",),
        ])
        self.assertEqual((fields, left), ([[[104]]], [[1, 2], [5]]))
        self.assertIs(type(run_alone(self.program(), 1, [[[100]]], [[], []])), tuple)

    def test_reads_beyond_the_last_word(self):
        actions, fields, left = run_alone(self.program(), 1, [[[7]]], [[1], [9]])
        self.assertEqual([actions[0], actions[3], actions[4]], [("read", 1, 9), ("read", 1, 0), ("write", 0, 0)])
        self.assertEqual((fields, left), ([[[17]]], [[1], []]))
        actions, _, left = run_alone(self.program(), 1, [[[7]]], [[], []])
        self.assertEqual([actions[0], actions[3], left], [("read", 1, 0), ("read", 1, 0), [[], []]])

    def test_nothing_to_do(self):
        self.assertEqual(run_alone(self.program(), 0, [[[7]]], [[1], [2]]), ([("done",)], [[[7]]], [[1], [2]]))

    def test_an_interrupt(self):
        self.assertEqual(run_alone(self.program(), 2, [[[2]]], [[1], [2]]),
                         ([("call", 0, 0, [40], 42), ("done",)], [[[42]]], [[1], [2]]))

    def test_arguments_stay_and_results_share_no_list(self):
        for who in range(3):
            program, fields, inputs = self.program(), [[[7]]], [[1], [9, 8]]
            expected = run_alone(program, who, fields, inputs)
            found = run_alone(program, who, fields, inputs)
            self.assertEqual((program, fields, inputs), (self.program(), [[[7]]], [[1], [9, 8]]))
            for rows in (found[0], found[1][0][0], found[1], found[2][0], found[2]):
                rows.append(55)
            for action in found[0]:
                if action != 55 and action[0] == "call":
                    action[3].append(55)
            self.assertEqual((program, fields, inputs), (self.program(), [[[7]]], [[1], [9, 8]]))
            self.assertEqual(run_alone(program, who, fields, inputs), expected)

    def test_random_programs(self):
        chance = random.Random(3)
        for seed in range(300):
            maker = ValidMaker(seed)
            program = maker.program()
            inputs = maker.inputs(program)
            for who in range(len(program[4]) + len(program[5])):
                run = oracle.Run(program, [who], inputs)
                for rows in run.fields:
                    for words in rows:
                        words[0] = chance.choice(EDGE_WORDS)
                fields = copy.deepcopy(run.fields)
                while run.running[0] is not None:
                    run.go_on(0)
                self.assertEqual(run_alone(program, who, fields, inputs),
                                 ([entry[1:] for entry in run.record], run.fields, run.inputs))
