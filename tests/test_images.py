"""Points 14.1 to 14.6: images of programs."""

import unittest

from deadbeat.codes import is_instruction
from deadbeat.errors import CodeError
from deadbeat.graphs import ending, graph
from deadbeat.images import build, entry, routine_at, watches
from deadbeat.layout import data_size, layout
from deadbeat.rules import check
from deadbeat.sections import callees
from tests import assembler
from tests.programs import ValidMaker, cell, interrupt, num, operation, put, shared, system, task
from tests.purity import check_pure

LINES = [1, 2, 4, 8, 16]
UP = [("set", 2, 1), ("calc", "add", 1, 1, 2)]


def call(thing, called, *given, place=None):
    return ("call", place, thing, called, list(given))


def sample():
    """A program with two objects, of which the first one calls the second one, two tasks and two interrupts."""
    last = shared("last", [("v", 2), ("w", 0)], [
        operation("get", ["x"], [("a", 0), ("b", 2)], [put("a", cell("x"))], cell("a")),
        operation("nop"),
    ])
    first = shared("first", [("f", 0)], [operation("put", ["x", "y"], [], [call("last", "get", num(1), place=cell("f"))])])
    tasks = [task("t", [call("first", "put", num(5), num(6))], [("c", 0)]), task("u")]
    interrupts = [interrupt("k", "last", "nop"), interrupt("l", "first", "put", [70000, 4294967295])]
    return system(objects=[first, last], tasks=tasks, interrupts=interrupts)


class BuildTest(unittest.TestCase):
    def test_document_example(self):
        put_ = ("operation", "put", ["x"], [], [("set", ("cell", "level"), ("cell", "x"))], None)
        box = ("object", "box", [("level", 0)], [put_])
        job = ("task", "job", 100, 90, [], [("call", None, "box", "put", [("num", 7)])])
        image = build(("system", "s", [], [box], [job], []), 4, 2)
        filler = ("set", 0, 0)
        self.assertEqual(image[1], [
            ("store", 8, 3), ("load", 1, 2), ("store", 1, 0), ("load", 8, 3), ("back",), filler, filler, filler,
            ("set", 1, 7), ("enter", 0), ("store", 1, 2), ("link", 0), ("leave", 0), ("done",)])
        self.assertEqual(image[2], [(("operation", 0, 0), 0, 5), (("task", 0), 8, 6)])
        self.assertEqual(watches(image), {0: ([2], [0])})
        self.assertIsNone(routine_at(image, 6))
        self.assertEqual(entry(image, ("task", 0)), 8)

    def test_sample(self):
        """Data: f | x, y, back | v, v, w | x, a, b, b, result, back | back | c."""
        image = build(sample(), 1, 1)
        self.assertEqual(image, ("image", [
            # last.get
            ("store", 8, 12), ("store", 0, 8), ("set", 1, 0), ("count", 0, 2), ("storex", 0, 1, 9, 2), *UP, ("again", 0, 4),
            ("load", 1, 7), ("store", 1, 8), ("load", 1, 8), ("store", 1, 11), ("load", 8, 12), ("back",),
            # last.nop
            ("store", 8, 13), ("load", 8, 13), ("back",),
            # first.put
            ("store", 8, 3), ("set", 1, 1), ("enter", 1), ("store", 1, 7), ("link", 0), ("load", 1, 11), ("leave", 1),
            ("store", 1, 0), ("load", 8, 3), ("back",),
            # t
            ("store", 0, 14), ("set", 1, 5), ("set", 2, 6), ("enter", 0), ("store", 1, 1), ("store", 2, 2), ("link", 17),
            ("leave", 0), ("done",),
            # u
            ("done",),
            # k
            ("enter", 1), ("link", 14), ("leave", 1), ("done",),
            # l
            ("set", 1, 4464), ("high", 1, 1), ("set", 2, -1), ("enter", 0), ("store", 1, 1), ("store", 2, 2), ("link", 17),
            ("leave", 0), ("done",),
        ], [
            (("operation", 1, 0), 0, 14), (("operation", 1, 1), 14, 3), (("operation", 0, 0), 17, 10), (("task", 0), 27, 9),
            (("task", 1), 36, 1), (("interrupt", 0), 37, 4), (("interrupt", 1), 41, 9),
        ], layout(sample(), 1)))

    def test_entries_and_lengths_for_each_line_size(self):
        for line, starts in ((1, [0, 14, 17, 27, 36, 37, 41]), (2, [0, 14, 18, 28, 38, 40, 44]),
                             (4, [0, 16, 20, 32, 44, 48, 52]), (8, [0, 16, 24, 40, 56, 64, 72]),
                             (16, [0, 16, 32, 48, 64, 80, 96])):
            _, code, routines, _ = build(sample(), line, 1)
            self.assertEqual([start for _, start, _ in routines], starts)
            self.assertEqual([length for _, _, length in routines], [14, 3, 10, 9, 1, 4, 9])
            self.assertEqual(len(code), starts[-1] + 9)
            covered = [p for _, start, length in routines for p in range(start, start + length)]
            for p in range(len(code)):
                if p not in covered:
                    self.assertEqual(code[p], ("set", 0, 0))

    def test_data_line(self):
        for line in LINES:
            image = build(sample(), 1, line)
            self.assertEqual(image[3], layout(sample(), line))
            self.assertEqual(len(image[1]), 50)

    def test_nothing(self):
        self.assertEqual(build(system(), 4, 4), ("image", [], [], []))
        self.assertEqual(build(system(objects=[shared("o")]), 4, 4), ("image", [], [], [(("object", 0), 0, [], [], [], None, None)]))

    def test_loops_of_several_routines_have_their_own_counters(self):
        loop = ("loop", "i", 2, None, [])
        program = system(
            objects=[shared("o", [], [operation("f", [], [], [loop])]), shared("p", [], [operation("g", [], [("a", 2)], [loop])])],
            tasks=[task("t", [loop, loop]), task("u", [], [("a", 1), ("b", 1)])])
        code = build(program, 1, 1)[1]
        self.assertEqual([row for row in code if row[0] == "count"], [
            ("count", 0, 2), ("count", 1, 2), ("count", 2, 2), ("count", 3, 2), ("count", 4, 2), ("count", 5, 1), ("count", 6, 1)])
        self.assertEqual([row[1] for row in code if row[0] == "again"], list(range(7)))

    def test_interrupts_with_each_number_of_arguments(self):
        for many in range(5):
            names = ["x", "y", "z", "w"][:many]
            program = system(objects=[shared("o", [], [operation("f", names)])],
                             interrupts=[interrupt("k", "o", "f", [1, 2, 65536, 4][:many])])
            code = build(program, 1, 1)[1][3:]
            words = [("set", 1, 1), ("set", 2, 2), ("set", 3, 0), ("high", 3, 1), ("set", 4, 4)]
            stores = [("store", number + 1, number) for number in range(many)]
            self.assertEqual(code, words[:[0, 1, 2, 4, 5][many]] + [("enter", 0), *stores, ("link", 0), ("leave", 0), ("done",)])

    def test_second_interrupt_and_later_operation(self):
        program = system(objects=[shared("o"), shared("p", [], [operation("f"), operation("g", ["x"])])],
                         interrupts=[interrupt("k", "p", "f"), interrupt("l", "p", "g", [9])])
        self.assertEqual(build(program, 1, 1)[1][6:], [
            ("enter", 1), ("link", 0), ("leave", 1), ("done",),
            ("set", 1, 9), ("enter", 1), ("store", 1, 1), ("link", 3), ("leave", 1), ("done",)])

    def test_random_programs(self):
        """Compares images with those of another compiler."""
        for seed in range(150):
            program = ValidMaker(seed).program()
            lines = LINES[seed % 5], LINES[seed // 5 % 5]
            self.assertEqual(build(program, *lines), assembler.image(program, *lines), seed)

    def test_arguments_stay(self):
        check_pure(self, build, sample(), 4, 2)
        for seed in range(5):
            check_pure(self, build, ValidMaker(seed).program(), 4, 2)


class LimitTest(unittest.TestCase):
    def bad(self, program, line=1):
        with self.assertRaises(CodeError) as caught:
            build(program, 1, line)
        self.assertEqual(caught.exception.at, len(assembler.image(program, 1, line)[1]))

    def program_of(self, length):
        """A program with so many instructions, whose code has no gaps."""
        tasks = []
        while length:
            writes, cells = divmod(min(length, 601) - 1, 3)
            tasks.append(task(f"t{len(tasks)}", [("write", "o", ("neg", num(1)))] * writes, [("a", 0), ("b", 0)][:cells]))
            length -= 3 * writes + cells + 1
        program = system(ports=[("out", "o")], tasks=tasks)
        check(program)
        return program

    def test_instructions(self):
        for length in (1, 2, 3, 601, 602, 4095, 4096):
            self.assertEqual(len(build(self.program_of(length), 1, 1)[1]), length)
        for length in (4097, 4098, 4800):
            self.bad(self.program_of(length))

    def test_fillers_count(self):
        program = system(tasks=[task(f"t{number}") for number in range(8)])
        self.assertEqual(len(build(program, 16, 1)[1]), 113)
        program = self.program_of(4090)
        self.assertEqual(len(build(program, 1, 1)[1]), 4090)
        with self.assertRaises(CodeError) as caught:
            build(program, 16, 1)
        self.assertEqual(caught.exception.at, len(assembler.image(program, 16, 1)[1]))

    def program_with(self, words):
        """A program with so many words of data."""
        objects = []
        cells = [(f"f{number}", 64) for number in range(16)]
        while words >= 1024:
            objects.append(shared(f"o{len(objects)}", cells))
            words -= 1024
        rest = [("g", words)] if words else []
        return system(objects=objects + [shared("rest", rest)])

    def test_data(self):
        """The number of objects breaks another limit, which building does not ask for."""
        for words in (0, 1, 1024, 16383, 16384):
            self.assertEqual(data_size(build(self.program_with(words), 1, 1)[3]), words)
        for words in (16385, 16386, 17000):
            self.bad(self.program_with(words))

    def test_data_of_a_valid_program(self):
        cells = [(f"c{number}", 64) for number in range(16)]

        def program(last):
            rows = [operation("f", [], cells), operation("g", [], cells), operation("h", [], cells), operation("i", [], last)]
            fields = [(f"f{number}", 64) for number in range(16)]
            objects = [shared(f"o{number}", fields) for number in range(3)] + [shared("o3", fields, rows)]
            return system(objects=objects, tasks=[task(f"t{number}", [], cells) for number in range(8)])

        exact = program(cells[:15] + [("z", 60)])
        check(exact)
        self.assertEqual(data_size(build(exact, 1, 1)[3]), 16384)
        beyond = program(cells[:15] + [("z", 61)])
        check(beyond)
        self.bad(beyond)
        self.bad(exact, 16)

    def test_gaps_count(self):
        program = system(objects=[shared("o", [("a", 0)])] + self.program_with(16383)[3])
        self.assertEqual(data_size(build(program, 1, 1)[3]), 16384)
        self.bad(program, 2)

    def program_counting(self, many):
        """A program with so many loops."""
        loops = [("loop", "i", 2, None, [])] * many
        return system(tasks=[task("t", loops[:100]), task("u", loops[100:200]), task("v", loops[200:])])

    def test_counters(self):
        for many in (0, 1, 255, 256):
            code = build(self.program_counting(many), 1, 1)[1]
            self.assertEqual([row[1] for row in code if row[0] == "count"], list(range(many)))
        for many in (257, 258, 300):
            self.bad(self.program_counting(many))

    def test_arrays_of_locals_count(self):
        for many, good in ((16, True), (17, False)):
            program = system(tasks=[task("t", [("loop", "i", 2, None, [])] * 240, [(f"a{number}", 2) for number in range(many)])])
            if good:
                build(program, 1, 1)
            else:
                self.bad(program)

    def test_instructions_have_the_ranges(self):
        for program in (self.program_of(4096), self.program_counting(256), sample()):
            self.assertTrue(all(is_instruction(row) for row in build(program, 1, 1)[1]))


class LookingTest(unittest.TestCase):
    def test_entry(self):
        for line in LINES:
            image = build(sample(), line, 2)
            for routine, start, _ in image[2]:
                self.assertEqual(entry(image, routine), start)

    def test_routine_at(self):
        for line in (1, 4, 16):
            image = build(sample(), line, 2)
            for routine, start, length in image[2]:
                self.assertEqual(routine_at(image, start), routine)
                self.assertEqual(routine_at(image, start + length - 1), routine)
            for address in range(-2, len(image[1]) + 3):
                found = [routine for routine, start, length in image[2] if address in range(start, start + length)]
                self.assertEqual(routine_at(image, address), found[0] if found else None)

    def test_gaps_and_outside(self):
        image = build(sample(), 16, 2)
        for address in (-1, 14, 15, 19, 31, 42, 65, 79, 105, 4095, 4096):
            self.assertIsNone(routine_at(image, address))
        self.assertIsNone(routine_at(build(system(), 1, 1), 0))

    def test_watches(self):
        image = build(sample(), 1, 1)
        self.assertEqual(watches(image), {0: ([7], [11, 4, 5, 6]), 14: ([], [4, 5, 6]), 17: ([1, 2], [0])})
        self.assertEqual(list(watches(image)), [0, 14, 17])

    def test_watches_of_all_forms(self):
        rows = [operation("all", ["x", "y", "z", "w"], [("a", 2)], [], num(1)), operation("bare")]
        program = system(objects=[shared("o", [], rows), shared("p", [("f", 1), ("g", 0), ("h", 3)], rows)])
        image = build(program, 8, 4)
        self.assertEqual(list(watches(image).items()), [
            (entry(image, ("operation", 1, 0)), ([20, 21, 22, 23], [26, 12, 13, 14, 15, 16])),
            (entry(image, ("operation", 1, 1)), ([], [12, 13, 14, 15, 16])),
            (entry(image, ("operation", 0, 0)), ([0, 1, 2, 3], [6])),
            (entry(image, ("operation", 0, 1)), ([], [])),
        ])
        self.assertEqual(watches(build(system(tasks=[task("t")]), 1, 1)), {})

    def test_arguments_stay(self):
        image = build(sample(), 4, 2)
        check_pure(self, watches, image)
        check_pure(self, entry, image, ("task", 0))
        check_pure(self, routine_at, image, 3)


class FormTest(unittest.TestCase):
    def test_links_jumps_and_pairs(self):
        """Point 14.6 and point 13.6: the code of random programs is well formed, and stays within its routines."""
        for seed in range(60):
            program = ValidMaker(seed).program()
            image = build(program, LINES[seed % 5], 1)
            operations = [start for routine, start, _ in image[2] if routine[0] == "operation"]
            counters = []
            for routine, start, length in image[2]:
                reached = graph(image[1], start)
                self.assertLessEqual(set(reached), set(range(start, start + length)))
                self.assertLessEqual(set(callees(image[1], start)), set(operations))
                self.assertEqual(ending(image[1], start), "operation" if routine[0] == "operation" else "body")
                rows = image[1][start:start + length]
                counters += [row[1] for row in rows if row[0] == "count"]
                for p, row in enumerate(rows, start):
                    if row[0] in ("jump", "jzero"):
                        self.assertGreater(row[-1], p)
                    if row[0] == "again":
                        self.assertLessEqual(row[-1], p)
            self.assertEqual(counters, list(range(len(counters))))
