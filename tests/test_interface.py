"""The names and arguments of the interface, and where they are defined."""

import importlib
import inspect
import unittest

from deadbeat import errors

COSTS = ("*, fetch_hit=1, fetch_miss=11, plain=1, mul=3, div=8, load_hit=1, load_miss=11, store=4, taken=1, count=2, port=4, "
         "release=6, switch=12, enter=5, leave=5, finish=8")
FUNCTIONS = {
    "words": ["wrap(n)", "signed(w)", "combine(operator, a, b)", "alter(operator, a)"],
    "tokens": ["tokenize(text)", "is_reserved(name)", "spell(tokens)"],
    "trees": ["depth(e)", "size(e)", "statements(body)", "write_expression(e)", "write_program(program)"],
    "parsing": ["parse_program(text)", "parse_expression(text)"],
    "rules": ["check(program)", "reached(program)", "used(program)", "find(rows, name)"],
    "meaning": ["fresh_fields(program)", "evaluate(e, names)", "perform(program, fields, at, operation, args)",
                "port_number(program, kind, name)", "run_alone(program, who, fields, inputs)"],
    "mixing": ["follow(program, jobs, inputs, record)", "in_turn(program, jobs, inputs, order)"],
    "codes": ["is_instruction(item)", "encode(instruction)", "decode(word)"],
    "cpu": ["instruction_cost(costs, instruction, *, fetch_hit, load_hit=True, taken=False)", "step(costs, code, core, board)"],
    "layout": ["loop_count(body)", "layout(program, line)", "data_size(groups)", "find_group(groups, owner)", "visible(groups, routine)"],
    "exprs": ["depth(e)", "word_code(r, w)", "expression_code(names, e, r)"],
    "images": ["build(program, code_line, data_line)", "entry(image, routine)", "routine_at(image, address)", "watches(image)"],
    "graphs": ["successors(code, p)", "graph(code, start)", "ending(code, start)"],
    "loops": ["loops(code, start)", "around(found, p)", "follow(found, place, q)", "places(code, start)"],
    "must": ["use_line(shape, known, number)", "use_some(shape, known, numbers)", "meet(known, other)", "data_lines(shape, instruction)",
             "after(processor, code, p, known_code, known_data)", "hits(processor, code, p, known_code, known_data)",
             "known_from(processor, code, found, place, ends)"],
    "longest": ["place_cost(processor, code, p, known_code, known_data, called)", "edge_cost(processor, code, p, q)",
                "claims(processor, code, found, place, ends, called)", "bound(found_claims, place)"],
    "sections": ["records(processor, code, starts)", "routine_bound(record)", "section_bounds(record)", "all_routines(code, starts)",
                 "callees(code, start)"],
    "orders": ["numbers(program)", "ceilings(program)", "owner(program, number)"],
    "reload": ["used_sets(processor, code, table, start)", "claims_reload(processor, rows, code_sets, data_sets)",
               "routine_reload(processor, code, table, start, code_sets, data_sets)",
               "section_reload(processor, code, table, start, at, code_sets, data_sets)",
               "charge(processor, code, table, starts, ceilings, j, n)"],
    "response": ["demand(window, own, blocked, above, releases, release_cost, slack)",
                 "response_time(limit, own, blocked, above, releases, release_cost, slack)"],
    "admit": ["slack_of(costs)", "starts_of(program, image)", "admission(program, processor)"],
    "audit": ["claims_right(processor, code, found, place, ends, called, rows)", "records_right(processor, code, starts, rows)",
              "verdict_right(program, processor, image, rows, verdict)", "certify(program, processor)",
              "audit(program, processor, certificate)"],
    "releases": ["accepted(times, every)"],
    "system": ["load(program, processor)"],
    "judging": ["judge(limits, trace)", "response_times(trace)"],
    "console": ["run_script(script)"],
}
CLASSES = {
    ("meaning", "Job", "program, who"): ["action()", "answer(word)"],
    ("caches", "Cache", "sets, ways, size"): ["fill(rows)", "holds(address)", "read(address)", "write(address)", "duplicate()"],
    ("cpu", "Costs", COSTS): [],
    ("cpu", "Core", "at"): [],
    ("cpu", "Board", "code_cache, data_cache, inputs"): ["take(port)"],
    ("stmts", "Target", "program, groups"): [],
    ("stmts", "Coder", "target, routine, start"): ["here()", "clear(cells)", "body(statements)"],
    ("waiting", "Waiting", ""): ["arrive(number, time)", "highest()", "begin(number)", "end(number)", "times(number)"],
    ("stack", "Stack", "ceilings"): ["top()", "level()", "levels()", "push(number)", "drop()", "enter_object(item)", "leave_object(item)"],
    ("releases", "Timeline", "rows"): ["next_time()", "take()"],
    ("kernel", "Setup", "*, code, starts, ceilings, watches, costs"): [],
    ("kernel", "Kernel", "setup, board, timeline"): ["advance()"],
    ("system", "System", "*, setup, every, code_cache, data_cache"): ["run(releases, inputs, horizon)"],
    ("judging", "Limits", "*, within, ceilings, bodies, sections, reloads"): [],
}
ERRORS = {"TextError": "line", "CommandError": "line", "RuleError": "rule", "CodeError": "at", "BoundError": "at", "PlanError": "at",
          "MixError": "at"}


def module(name):
    return importlib.import_module("deadbeat." + name)


def with_self(arguments):
    return f"(self, {arguments})" if arguments else "(self)"


class InterfaceTest(unittest.TestCase):
    def test_functions(self):
        for name, rows in FUNCTIONS.items():
            for row in rows:
                called, arguments = row.split("(", 1)
                function = getattr(module(name), called)
                self.assertTrue(inspect.isfunction(function))
                self.assertEqual(function.__module__, "deadbeat." + name)
                self.assertEqual(str(inspect.signature(function)), "(" + arguments)

    def test_classes_and_methods(self):
        for (name, called, arguments), methods in CLASSES.items():
            found = getattr(module(name), called)
            self.assertTrue(inspect.isclass(found))
            self.assertEqual(found.__module__, "deadbeat." + name)
            self.assertEqual(str(inspect.signature(found.__init__)), with_self(arguments))
            for row in methods:
                method, given = row[:-1].split("(", 1)
                self.assertIn(method, vars(found))
                self.assertEqual(str(inspect.signature(vars(found)[method])), with_self(given))

    def test_errors(self):
        self.assertEqual(errors.DeadbeatError.__bases__, (ValueError,))
        for name, field in ERRORS.items():
            found = getattr(errors, name)
            self.assertEqual(found.__bases__, (errors.DeadbeatError,))
            self.assertEqual(getattr(found(3), field), 3)

    def test_errors_are_defined_once(self):
        for name in FUNCTIONS:
            for error in ERRORS:
                self.assertIn(getattr(module(name), error, None), (None, getattr(errors, error)))


if __name__ == "__main__":
    unittest.main()
