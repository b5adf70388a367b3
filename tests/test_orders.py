"""Points 20.1 to 20.3, with 0.12 and 5.3: numbers and ceilings."""

import unittest

from deadbeat.orders import ceilings, numbers, owner
from deadbeat.rules import reached, used
from tests.programs import ValidMaker, interrupt, operation, shared, system, task
from tests.purity import check_pure


def call(name):
    return ("call", None, name, "f", [])


def tasks_of(deadlines):
    return [task(f"t{number}", every=900, within=within) for number, within in enumerate(deadlines)]


def program_of(calls, tasks, interrupts=()):
    """Objects o0, o1 .. with the objects that each calls; tasks as pairs of a deadline and the objects that they call."""
    objects = [shared(f"o{number}", [], [operation("f", [], [], [call(name) for name in names])])
               for number, names in enumerate(calls)]
    rows = [task(f"t{number}", [call(name) for name in names], [], 900, within) for number, (within, names) in enumerate(tasks)]
    return system(objects=objects, tasks=rows, interrupts=[interrupt(f"k{number}", name, "f") for number, name in enumerate(interrupts)])


class NumbersTest(unittest.TestCase):
    def of(self, *deadlines):
        return numbers(system(tasks=tasks_of(deadlines)))

    def test_document_example(self):
        tasks = [("task", "a", 900, 500, [], []), ("task", "b", 900, 700, [], []), ("task", "c", 900, 500, [], [])]
        self.assertEqual(numbers(("system", "s", [], [], tasks, [])), [3, 1, 2])

    def test_no_tasks(self):
        self.assertEqual(self.of(), [])
        self.assertEqual(numbers(program_of([[]], [], ["o0"])), [9])
        self.assertEqual(numbers(program_of([[]], [], ["o0", "o0"])), [9, 10])

    def test_different_deadlines(self):
        self.assertEqual(self.of(5), [1])
        self.assertEqual(self.of(5, 6), [2, 1])
        self.assertEqual(self.of(6, 5), [1, 2])
        self.assertEqual(self.of(80, 10, 70, 20, 60, 30, 50, 40), [1, 8, 2, 7, 3, 6, 4, 5])

    def test_equal_deadlines(self):
        self.assertEqual(self.of(5, 5), [2, 1])
        self.assertEqual(self.of(*[5] * 8), [8, 7, 6, 5, 4, 3, 2, 1])
        self.assertEqual(self.of(5, 7, 5, 7), [4, 2, 3, 1])

    def test_deadlines_and_not_the_times_between_releases_count(self):
        program = system(tasks=[task("a", every=10, within=10), task("b", every=900, within=5), task("c", every=400, within=7)])
        self.assertEqual(numbers(program), [1, 3, 2])

    def test_deadlines_of_interrupts_do_not_count(self):
        program = system(objects=[shared("o", [], [operation()])], tasks=tasks_of([5, 9]),
                         interrupts=[interrupt("k", "o", "f", [], 900, 800), interrupt("l", "o", "f", [], 900, 1)])
        self.assertEqual(numbers(program), [2, 1, 9, 10])

    def test_arguments_stay(self):
        check_pure(self, numbers, program_of([[]], [(5, []), (6, [])], ["o0"]))


class CeilingsTest(unittest.TestCase):
    def test_no_objects(self):
        self.assertEqual(ceilings(system(tasks=tasks_of([5]))), [])

    def test_objects_that_nobody_uses(self):
        self.assertEqual(ceilings(program_of([[], []], [(5, [])])), [0, 0])
        self.assertEqual(ceilings(program_of([[], []], [])), [0, 0])
        self.assertEqual(ceilings(program_of([["o1"], []], [])), [0, 0])

    def test_greatest_number_counts(self):
        self.assertEqual(ceilings(program_of([[], []], [(5, ["o0"]), (4, ["o0"]), (6, ["o0", "o1"])])), [3, 1])

    def test_interrupts(self):
        self.assertEqual(ceilings(program_of([[], [], []], [(5, ["o0"])], ["o1", "o2"])), [1, 9, 10])
        self.assertEqual(ceilings(program_of([[], []], [(5, ["o0"])], ["o0", "o0"])), [10, 0])

    def test_use_through_others(self):
        self.assertEqual(ceilings(program_of([["o1"], ["o2"], []], [(5, ["o0"])])), [1, 1, 1])
        self.assertEqual(ceilings(program_of([["o1"], [], []], [(5, ["o0"]), (4, ["o2"])])), [1, 1, 2])

    def test_objects_that_call_a_used_one(self):
        """An object whose operations call a more urgent one is as urgent, though its own users are not."""
        self.assertEqual(ceilings(program_of([["o1"], []], [(9, ["o0"]), (5, ["o1"])])), [2, 2])
        self.assertEqual(ceilings(program_of([["o1"], ["o2"], []], [(9, ["o0"])], ["o2"])), [9, 9, 9])
        self.assertEqual(ceilings(program_of([["o1"], [], []], [], ["o1"])), [9, 9, 0])

    def test_the_other_way_round(self):
        self.assertEqual(ceilings(program_of([["o1"], [], ["o3"], []], [(5, ["o0"]), (4, ["o3"])])), [1, 1, 2, 2])

    def test_random_programs(self):
        """Against the words of point 20.2, and point 20.3."""
        for seed in range(200):
            program = ValidMaker(seed).program()
            found, ways = ceilings(program), reached(program)
            users = list(zip(numbers(program), used(program)))
            for a, row in enumerate(ways):
                self.assertEqual(found[a], max([0] + [number for number, names in users if set(names) & set(row)]))
                for b in row:
                    self.assertGreaterEqual(found[a], found[b])

    def test_arguments_stay(self):
        check_pure(self, ceilings, program_of([["o1"], []], [(5, ["o0"])], ["o1"]))


class OwnerTest(unittest.TestCase):
    def test_owner(self):
        program = program_of([[]], [(5, []), (7, []), (5, [])], ["o0", "o0"])
        self.assertEqual([owner(program, number) for number in range(12)], [
            None, ("task", 1), ("task", 2), ("task", 0), None, None, None, None, None, ("interrupt", 0), ("interrupt", 1), None])
        self.assertIsNone(owner(program, -1))

    def test_numbers_that_nobody_has(self):
        program = program_of([[]], [(5, [])])
        self.assertEqual([owner(program, number) for number in (0, 1, 2, 8, 9, 10)], [None, ("task", 0), None, None, None, None])
        program = program_of([[]], [], ["o0"])
        self.assertEqual([owner(program, number) for number in (0, 1, 9, 10)], [None, None, ("interrupt", 0), None])
        self.assertIsNone(owner(system(), 1))

    def test_eight_tasks(self):
        program = system(tasks=tasks_of([5] * 8))
        self.assertEqual([owner(program, number) for number in range(1, 10)], [("task", t) for t in range(7, -1, -1)] + [None])

    def test_each_number(self):
        for seed in range(30):
            program = ValidMaker(seed).program()
            routines = [("task", t) for t in range(len(program[4]))] + [("interrupt", i) for i in range(len(program[5]))]
            self.assertEqual([owner(program, number) for number in numbers(program)], routines)

    def test_arguments_stay(self):
        check_pure(self, owner, program_of([[]], [(5, [])], ["o0"]), 9)
