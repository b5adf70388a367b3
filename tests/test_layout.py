"""Points 11.1 to 11.5: where the data of a program lies."""

import unittest

from deadbeat.layout import data_size, find_group, layout, loop_count, visible
from deadbeat.rules import check
from tests import assembler
from tests.programs import ValidMaker, cell, interrupt, num, operation, put, shared, system, task
from tests.purity import check_pure

LINES = [1, 2, 4, 8, 16]


def loop(name, *body, e=None, count=2):
    return ("loop", name, count, e, list(body))


NESTED = [
    put("a", num(1)),
    loop("i", loop("j"), put("a", num(2)), loop("k", loop("l"), e=cell("a"))),
    ("if", cell("a"), [loop("m"), ("if", cell("a"), [], [loop("n")])], [loop("o", ("if", num(1), [loop("p")], []))]),
    loop("q"),
]


def sample():
    """A program with single cells beside arrays of 1 and 64 cells, and operations of all forms."""
    box = shared("box", [("f", 0), ("g", 1), ("h", 64), ("l", 0)], [
        operation("all", ["x", "y"], [("a", 0), ("b", 3)], [loop("i", loop("j"))], cell("x")),
        operation("none"),
        operation("result", [], [], [], num(1)),
        operation("params", ["x", "y", "z", "w"]),
    ])
    last = shared("last", [("v", 2)])
    tasks = [task("t", [loop("i"), loop("j")], [("a", 0), ("b", 64), ("c", 1)]), task("u"), task("v", [], [("a", 0)])]
    return system(objects=[box, shared("empty"), last], tasks=tasks, interrupts=[interrupt("k", "box", "none")])


class LoopCountTest(unittest.TestCase):
    def test_loop_count(self):
        self.assertEqual(loop_count([]), 0)
        self.assertEqual(loop_count([put("a", num(1)), ("if", num(1), [], [])]), 0)
        self.assertEqual(loop_count([loop("i")]), 1)
        self.assertEqual(loop_count([loop("i"), loop("i")]), 2)
        self.assertEqual(loop_count([loop("i", loop("j", loop("k", loop("l"))))]), 4)
        self.assertEqual(loop_count([("if", num(1), [loop("i")], [loop("j"), loop("k")])]), 3)
        self.assertEqual(loop_count(NESTED), 9)

    def test_arguments_stay(self):
        check_pure(self, loop_count, NESTED)


class LayoutTest(unittest.TestCase):
    def test_document_example(self):
        box = ("object", "box", [("level", 0)], [("operation", "put", ["x"], [], [], ("cell", "x"))])
        job = ("task", "job", 100, 90, [("v", 3)], [("loop", "i", 2, None, [])])
        self.assertEqual(layout(("system", "s", [], [box], [job], []), 4), [
            (("object", 0), 0, [], [("level", 0, 0)], [], None, None),
            (("operation", 0, 0), 4, [("x", 4, 0)], [], [], 5, 6),
            (("task", 0), 8, [], [("v", 8, 3)], [11], None, None),
        ])

    def test_sample_without_gaps(self):
        self.assertEqual(layout(sample(), 1), [
            (("object", 0), 0, [], [("f", 0, 0), ("g", 1, 1), ("h", 2, 64), ("l", 66, 0)], [], None, None),
            (("operation", 0, 0), 67, [("x", 67, 0), ("y", 68, 0)], [("a", 69, 0), ("b", 70, 3)], [73, 74], 75, 76),
            (("operation", 0, 1), 77, [], [], [], None, 77),
            (("operation", 0, 2), 78, [], [], [], 78, 79),
            (("operation", 0, 3), 80, [("x", 80, 0), ("y", 81, 0), ("z", 82, 0), ("w", 83, 0)], [], [], None, 84),
            (("object", 1), 85, [], [], [], None, None),
            (("object", 2), 85, [], [("v", 85, 2)], [], None, None),
            (("task", 0), 87, [], [("a", 87, 0), ("b", 88, 64), ("c", 152, 1)], [153, 154], None, None),
            (("task", 1), 155, [], [], [], None, None),
            (("task", 2), 155, [], [("a", 155, 0)], [], None, None),
        ])

    def test_sample_with_gaps(self):
        self.assertEqual([group[1] for group in layout(sample(), 2)], [0, 68, 78, 80, 82, 88, 88, 90, 158, 158])
        self.assertEqual([group[1] for group in layout(sample(), 16)], [0, 80, 96, 112, 128, 144, 144, 160, 240, 240])

    def test_nothing(self):
        for line in LINES:
            self.assertEqual(layout(system(), line), [])
            self.assertEqual(layout(system(interrupts=[]), line), [])

    def test_no_objects_or_no_tasks(self):
        self.assertEqual(layout(system(tasks=[task("t")]), 8), [(("task", 0), 0, [], [], [], None, None)])
        self.assertEqual(layout(system(objects=[shared("o")]), 8), [(("object", 0), 0, [], [], [], None, None)])

    def test_empty_groups_start_on_a_line(self):
        program = system(objects=[shared("o", [("a", 0)]), shared("p")], tasks=[task("t"), task("u", [], [("a", 0)])])
        self.assertEqual([group[1] for group in layout(program, 4)], [0, 4, 4, 4])

    def test_ends_on_and_beside_a_line(self):
        for size, start in ((1, 8), (7, 8), (8, 8), (9, 16), (16, 16), (17, 24)):
            program = system(tasks=[task("t", [], [("a", size)]), task("u")])
            self.assertEqual(layout(program, 8)[1][1], start)

    def test_loop_variables(self):
        program = system(objects=[shared("o", [], [operation("f", [], [("a", 0)], NESTED)])],
                         tasks=[task("t", NESTED, [("a", 0)])])
        self.assertEqual(layout(program, 1)[1], (("operation", 0, 0), 0, [], [("a", 0, 0)], list(range(1, 10)), None, 10))
        self.assertEqual(layout(program, 16)[2], (("task", 0), 16, [], [("a", 16, 0)], list(range(17, 26)), None, None))

    def test_interrupts_have_no_group(self):
        self.assertNotIn("interrupt", [group[0][0] for group in layout(sample(), 4)])

    def test_no_line_has_two_groups(self):
        for line in LINES:
            groups = layout(sample(), line)
            for group, other in zip(groups, groups[1:]):
                self.assertEqual(other[1] % line, 0)
                self.assertGreaterEqual(other[1], data_size([group]))
                self.assertLess(other[1] - data_size([group]), line)

    def test_random_programs(self):
        for seed in range(120):
            program = ValidMaker(seed).program()
            for line in LINES:
                self.assertEqual(layout(program, line), assembler.groups(program, line))

    def test_arguments_stay(self):
        for line in LINES:
            check_pure(self, layout, sample(), line)
        check(sample())


class DataSizeTest(unittest.TestCase):
    def test_no_group(self):
        self.assertEqual(data_size([]), 0)

    def test_last_word_of_each_kind(self):
        for group, end in (
            ((("object", 0), 8, [], [], [], None, None), 8),
            ((("object", 0), 8, [], [("a", 8, 0)], [], None, None), 9),
            ((("object", 0), 8, [], [("a", 8, 1)], [], None, None), 9),
            ((("object", 0), 8, [], [("a", 8, 0), ("b", 9, 64)], [], None, None), 73),
            ((("task", 0), 8, [], [("a", 8, 2)], [10, 11], None, None), 12),
            ((("task", 0), 8, [], [], [8], None, None), 9),
            ((("operation", 0, 0), 0, [], [], [], None, 0), 1),
            ((("operation", 0, 0), 8, [("x", 8, 0)], [], [], None, 9), 10),
            ((("operation", 0, 0), 8, [("x", 8, 0)], [("a", 9, 5)], [14], 15, 16), 17),
        ):
            self.assertEqual(data_size([group]), end)
            self.assertEqual(data_size([(("object", 9), 0, [], [("z", 0, 3)], [], None, None), group]), end)

    def test_layouts(self):
        self.assertEqual([data_size(layout(sample(), line)) for line in LINES], [156, 159, 169, 193, 241])

    def test_empty_group_at_the_end(self):
        program = system(tasks=[task("t", [], [("a", 0)]), task("u")])
        self.assertEqual([data_size(layout(program, line)) for line in LINES], LINES)

    def test_arguments_stay(self):
        check_pure(self, data_size, layout(sample(), 4))


class FindGroupTest(unittest.TestCase):
    def test_each_owner(self):
        groups = layout(sample(), 4)
        for group in groups:
            self.assertEqual(find_group(groups, group[0]), group)

    def test_missing(self):
        groups = layout(sample(), 4)
        for owner in (("object", 3), ("operation", 0, 4), ("operation", 1, 0), ("task", 3), ("interrupt", 0)):
            self.assertIsNone(find_group(groups, owner))
        self.assertIsNone(find_group([], ("object", 0)))

    def test_arguments_stay(self):
        check_pure(self, find_group, layout(sample(), 4), ("operation", 0, 0))
        check_pure(self, find_group, layout(sample(), 4), ("task", 0))


class VisibleTest(unittest.TestCase):
    def test_operation(self):
        groups = layout(sample(), 1)
        fields = {"f": (0, 0), "g": (1, 1), "h": (2, 64), "l": (66, 0)}
        self.assertEqual(visible(groups, ("operation", 0, 0)),
                         {"x": (67, 0), "y": (68, 0), "a": (69, 0), "b": (70, 3), **fields})
        self.assertEqual(visible(groups, ("operation", 0, 1)), fields)
        self.assertEqual(visible(groups, ("operation", 0, 3)),
                         {"x": (80, 0), "y": (81, 0), "z": (82, 0), "w": (83, 0), **fields})

    def test_task(self):
        groups = layout(sample(), 1)
        self.assertEqual(visible(groups, ("task", 0)), {"a": (87, 0), "b": (88, 64), "c": (152, 1)})
        self.assertEqual(visible(groups, ("task", 1)), {})
        self.assertEqual(visible(groups, ("task", 2)), {"a": (155, 0)})

    def test_interrupt(self):
        self.assertEqual(visible(layout(sample(), 1), ("interrupt", 0)), {})

    def test_object_of_the_operation(self):
        program = system(objects=[shared("o", [("a", 0)], [operation()]), shared("p", [("b", 2)], [operation()])])
        groups = layout(program, 4)
        self.assertEqual(visible(groups, ("operation", 0, 0)), {"a": (0, 0)})
        self.assertEqual(visible(groups, ("operation", 1, 0)), {"b": (8, 2)})

    def test_arguments_stay(self):
        for routine in (("operation", 0, 0), ("task", 0), ("interrupt", 0)):
            check_pure(self, visible, layout(sample(), 4), routine)
