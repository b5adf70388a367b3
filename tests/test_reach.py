import copy
import unittest

from deadbeat.rules import find, reached, used
from deadbeat.trees import statements
from tests.programs import ValidMaker, cell, interrupt, num, operation, shared, system, task


def call(name):
    return ("call", None, name, "f", [])


def program_of(calls, tasks=(), interrupts=()):
    """A program with objects o0, o1 ..; `calls` lists for each of them the objects that its operations call."""
    objects = []
    for number, names in enumerate(calls):
        rows = [operation("f")] + [operation(f"g{k}", [], [], [call(name)]) for k, name in enumerate(names)]
        objects.append(shared(f"o{number}", [], rows))
    return system(
        objects=objects, tasks=[task(f"t{k}", [call(name) for name in names]) for k, names in enumerate(tasks)],
        interrupts=[interrupt(f"k{k}", name, "f") for k, name in enumerate(interrupts)])


class FindTest(unittest.TestCase):
    def test_find(self):
        rows = [("in", "a"), ("out", "b"), ("in", "b", 7), ("in", "c")]
        self.assertEqual([find(rows, name) for name in ("a", "b", "c", "d", "in", "")], [0, 1, 3, -1, -1, -1])
        self.assertEqual(find([], "a"), -1)

    def test_first_of_two_equal_names(self):
        self.assertEqual(find([("x", "a"), ("y", "n"), ("z", "n"), ("n", "n")], "n"), 1)

    def test_item_1_alone_counts(self):
        self.assertEqual(find([("n", "a", "n")], "n"), -1)

    def test_rows_of_a_program(self):
        program = program_of([[], [], []], [[], []], ["o0"])
        self.assertEqual(find(program[3], "o2"), 2)
        self.assertEqual(find(program[3][0][3], "f"), 0)
        self.assertEqual(find(program[4], "t1"), 1)
        self.assertEqual(find(program[5], "k0"), 0)

    def test_rows_stay(self):
        rows = [("in", "a"), ("out", "b")]
        find(rows, "b")
        self.assertEqual(rows, [("in", "a"), ("out", "b")])


class ReachedTest(unittest.TestCase):
    def test_no_objects(self):
        self.assertEqual(reached(system()), [])
        self.assertEqual(reached(system(tasks=[task("t")])), [])

    def test_itself_alone(self):
        self.assertEqual(reached(program_of([[]])), [[0]])
        self.assertEqual(reached(program_of([[], [], [], []])), [[0], [1], [2], [3]])

    def test_directly(self):
        self.assertEqual(reached(program_of([["o2"], [], []])), [[0, 2], [1], [2]])
        self.assertEqual(reached(program_of([["o3", "o1"], [], [], []])), [[0, 1, 3], [1], [2], [3]])

    def test_through_others(self):
        self.assertEqual(reached(program_of([["o1"], ["o2"], ["o3"], []])), [[0, 1, 2, 3], [1, 2, 3], [2, 3], [3]])
        self.assertEqual(reached(program_of([["o2"], [], ["o3"], []])), [[0, 2, 3], [1], [2, 3], [3]])

    def test_by_two_ways(self):
        self.assertEqual(reached(program_of([["o1", "o2"], ["o3"], ["o3"], []])), [[0, 1, 2, 3], [1, 3], [2, 3], [3]])
        self.assertEqual(reached(program_of([["o1", "o1"], []])), [[0, 1], [1]])

    def test_calls_inside_statements(self):
        inner = ("if", num(1), [], [("loop", "j", 2, None, [call("o2")])])
        body = [("loop", "i", 2, None, [("if", num(0), [call("o1")], []), inner])]
        objects = [shared("o0", [], [operation("f"), operation("g"), operation("h", [], [], body)]),
                   shared("o1", [], [operation("f")]), shared("o2", [], [operation("f")])]
        self.assertEqual(reached(system(objects=objects)), [[0, 1, 2], [1], [2]])

    def test_five_objects(self):
        self.assertEqual(reached(program_of([["o1"], ["o2"], ["o3"], ["o4"], []]))[0], [0, 1, 2, 3, 4])

    def test_random_programs(self):
        for seed in range(150):
            program = ValidMaker(seed).program()
            names = [thing[1] for thing in program[3]]
            near = [{names.index(row[2]) for called in thing[3] for row in statements(called[4]) if row[0] == "call"}
                    for thing in program[3]]
            for at, found in enumerate(reached(program)):
                expected, waiting = set(), [at]
                while waiting:
                    one = waiting.pop()
                    expected.add(one)
                    waiting.extend(near[one])
                self.assertEqual(found, sorted(expected))


class UsedTest(unittest.TestCase):
    def test_no_objects(self):
        self.assertEqual(used(system()), [])
        self.assertEqual(used(system(tasks=[task("t"), task("u")])), [[], []])

    def test_tasks(self):
        calls = [["o2"], [], ["o3"], []]
        tasks = [[], ["o0"], ["o1"], ["o3", "o1"], ["o2", "o0"], ["o1", "o1"]]
        self.assertEqual(used(program_of(calls, tasks)), [[], [0, 2, 3], [1], [1, 3], [0, 2, 3], [1]])

    def test_interrupts(self):
        self.assertEqual(used(program_of([["o1"], [], []], [], ["o0", "o2"])), [[0, 1], [2]])
        self.assertEqual(used(program_of([["o1"], [], []], [["o2"], []], ["o1", "o0"])), [[2], [], [1], [0, 1]])

    def test_calls_inside_statements(self):
        program = program_of([[], ["o3"], [], []], [[]])
        program[4][0][5].append(("loop", "i", 2, None, [("if", cell("i"), [call("o2")], [call("o1")])]))
        self.assertEqual(used(program), [[1, 2, 3]])

    def test_an_operation_that_is_not_called_counts(self):
        self.assertEqual(used(program_of([["o1"], []], [["o0"]])), [[0, 1]])


class ListsTest(unittest.TestCase):
    def test_programs_stay(self):
        for seed in range(30):
            program = ValidMaker(seed).program()
            before = copy.deepcopy(program)
            reached(program)
            used(program)
            self.assertEqual(program, before)

    def test_results_share_no_list(self):
        program = program_of([["o1"], []], [["o0"], ["o0"], ["o1"]], ["o0", "o0"])
        for function in (reached, used):
            expected = copy.deepcopy(function(program))
            found = function(program)
            for number, row in enumerate(found):
                row.append(9)
                self.assertEqual(found[number + 1:], expected[number + 1:])
            found.clear()
            self.assertEqual(function(program), expected)
