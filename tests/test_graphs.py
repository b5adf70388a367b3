"""Points 15.1 to 15.6: the graphs of routines."""

import random
import unittest

from deadbeat.errors import CodeError
from deadbeat.graphs import ending, graph, successors
from tests import naive
from tests.purity import check_pure
from tests.routines import broken, random_code

DONE, BACK, NOP = ("done",), ("back",), ("set", 0, 0)


class SuccessorsTest(unittest.TestCase):
    def of(self, row, p=2, length=4):
        code = [NOP] * length
        code[p] = row
        return successors(code, p)

    def test_document_example(self):
        self.assertEqual(successors([("jzero", 1, 0)], 0), [0, 1])

    def test_the_next_address(self):
        for row in (("set", 1, 5), ("high", 1, 5), ("calc", "add", 1, 2, 3), ("load", 1, 5), ("store", 1, 5),
                    ("loadx", 1, 2, 5, 1), ("storex", 1, 2, 5, 1), ("count", 1, 5), ("link", 0), ("link", 99), ("enter", 0),
                    ("leave", 0), ("in", 1, 0), ("out", 1, 0)):
            self.assertEqual(self.of(row), [3])

    def test_ends(self):
        self.assertEqual(self.of(BACK), [])
        self.assertEqual(self.of(DONE), [])

    def test_jump(self):
        for q in (0, 2, 3, 4, 4095):
            self.assertEqual(self.of(("jump", q)), [q])

    def test_two_successors(self):
        for name in ("jzero", "again"):
            for q, found in ((0, [0, 3]), (2, [2, 3]), (3, [3]), (4, [3, 4]), (4095, [3, 4095])):
                self.assertEqual(self.of((name, 1, q)), found)

    def test_outside_of_the_code(self):
        self.assertEqual(successors([NOP], 0), [1])
        self.assertEqual(successors([("jzero", 1, 9)], 0), [1, 9])
        self.assertEqual(successors([("jump", 9)], 0), [9])

    def test_arguments_stay(self):
        check_pure(self, successors, [("jzero", 1, 0), DONE], 0)
        check_pure(self, successors, [NOP, DONE], 1)


class GraphTest(unittest.TestCase):
    def bad(self, code, start=0):
        for function in (graph, ending):
            with self.assertRaises(CodeError) as caught:
                function(code, start)
            self.assertEqual(caught.exception.at, start)

    def good(self, code, start=0):
        found = graph(code, start)
        self.assertEqual(found, naive.stacks(code, start))
        return found

    def test_document_examples(self):
        self.assertEqual(graph([("enter", 1), ("jzero", 0, 2), ("leave", 1), ("done",)], 0), {0: (), 1: (1,), 2: (1,), 3: ()})
        self.bad([("jzero", 1, 2), ("enter", 1), ("done",)])

    def test_straight(self):
        self.assertEqual(graph([DONE], 0), {0: ()})
        self.assertEqual(graph([NOP, NOP, BACK], 0), {0: (), 1: (), 2: ()})

    def test_start(self):
        code = [("leave", 0), NOP, DONE, NOP, BACK]
        self.assertEqual(graph(code, 1), {1: (), 2: ()})
        self.assertEqual(graph(code, 3), {3: (), 4: ()})
        self.assertEqual(graph(code, 2), {2: ()})
        self.bad(code)
        self.assertEqual(graph([DONE, ("jump", 0)], 1), {0: (), 1: ()})

    def test_what_is_not_reached_does_not_count(self):
        bad = [("jump", 9999), ("leave", 0), ("link", 9999), BACK]
        for row in bad:
            self.assertEqual(graph([("jump", 2), row, DONE], 0), {0: (), 2: ()})
            self.assertEqual(graph([DONE, row], 0), {0: ()})

    def test_jzero(self):
        self.assertEqual(graph([("jzero", 1, 2), NOP, DONE], 0), {0: (), 1: (), 2: ()})
        self.assertEqual(graph([("jzero", 1, 1), DONE], 0), {0: (), 1: ()})
        self.assertEqual(graph([("jzero", 1, 2), DONE, DONE], 0), {0: (), 1: (), 2: ()})

    def test_loops(self):
        self.assertEqual(graph([NOP, ("jzero", 1, 0), DONE], 0), {0: (), 1: (), 2: ()})
        self.assertEqual(graph([("again", 1, 0), DONE], 0), {0: (), 1: ()})

    def test_link_goes_on(self):
        self.assertEqual(graph([("link", 2), DONE, BACK], 0), {0: (), 1: ()})
        self.assertEqual(graph([("link", 0), DONE], 0), {0: (), 1: ()})
        self.assertEqual(graph([("enter", 0), ("link", 3), ("leave", 0), DONE], 0), {0: (), 1: (0,), 2: (0,), 3: ()})

    def test_stacks(self):
        code = [("enter", 2), ("enter", 0), NOP, ("leave", 0), ("enter", 1), ("leave", 1), ("leave", 2), ("enter", 2), ("leave", 2), DONE]
        self.assertEqual(graph(code, 0), {0: (), 1: (2,), 2: (2, 0), 3: (2, 0), 4: (2,), 5: (2, 1), 6: (2,), 7: (), 8: (2,), 9: ()})

    def test_outside_of_the_code(self):
        self.bad([NOP])
        self.bad([("jump", 2), DONE])
        self.bad([("jzero", 1, 2), DONE])
        self.bad([("jzero", 1, 5), DONE])
        self.bad([DONE, ("jzero", 1, 0)], 1)
        self.bad([("again", 1, 7), DONE])
        self.bad([NOP, DONE, NOP], 2)
        self.assertEqual(graph([("jzero", 1, 1), DONE], 0), {0: (), 1: ()})

    def test_start_outside_of_the_code(self):
        self.bad([DONE], 1)
        self.bad([DONE], -1)
        self.bad([], 0)

    def test_callee_outside_of_the_code(self):
        self.bad([("link", 2), DONE])
        self.bad([("link", 4095), DONE])
        self.assertEqual(graph([("link", 1), DONE], 0), {0: (), 1: ()})

    def test_two_stacks(self):
        self.bad([("jzero", 1, 2), ("enter", 1), NOP, ("leave", 1), DONE])
        self.bad([("jzero", 1, 3), ("enter", 0), ("jump", 4), ("enter", 1), NOP, ("leave", 1), DONE])
        self.bad([("enter", 1), ("jzero", 1, 0), ("leave", 1), DONE])
        self.bad([("enter", 1), ("enter", 2), ("jzero", 1, 4), ("leave", 2), ("leave", 1), DONE])

    def test_two_equal_stacks(self):
        code = [("jzero", 1, 3), ("enter", 1), ("jump", 4), ("enter", 1), NOP, ("leave", 1), DONE]
        self.assertEqual(graph(code, 0)[4], (1,))

    def test_order_of_a_stack(self):
        self.bad([("jzero", 1, 4), ("enter", 0), ("enter", 1), ("jump", 6), ("enter", 1), ("enter", 0), NOP, ("leave", 1),
                  ("leave", 0), DONE])

    def test_leave(self):
        self.bad([("leave", 0), DONE])
        self.bad([("enter", 1), ("leave", 0), DONE])
        self.bad([("enter", 1), ("enter", 0), ("leave", 1), ("leave", 0), DONE])
        self.bad([("enter", 1), ("leave", 1), ("leave", 1), DONE])

    def test_enter(self):
        self.bad([("enter", 1), ("enter", 1), ("leave", 1), ("leave", 1), DONE])
        self.bad([("enter", 1), ("enter", 0), ("enter", 1), ("leave", 1), ("leave", 0), ("leave", 1), DONE])

    def test_end_with_a_stack(self):
        self.bad([("enter", 1), DONE])
        self.bad([("enter", 1), BACK])
        self.bad([("jzero", 1, 4), ("enter", 1), ("leave", 1), DONE, ("enter", 0), DONE])

    def test_kinds_of_ends(self):
        self.bad([("jump", 0)])
        self.bad([NOP, ("jump", 0)])
        self.bad([("jzero", 1, 2), DONE, BACK])
        self.bad([("jzero", 1, 2), BACK, DONE])
        self.assertEqual(len(graph([("jzero", 1, 2), BACK, BACK], 0)), 3)

    def test_random_code(self):
        """Well-formed code, and code with single faults, against the definitions."""
        good = 0
        for seed in range(1500):
            code, start = random_code(seed)
            chance = random.Random(seed)
            for _ in range(seed % 3):
                code = broken(code, chance)
            start = min(start, len(code) - 1)
            if naive.stacks(code, start) is None:
                self.bad(code, start)
            else:
                self.good(code, start)
                good += 1
        self.assertGreater(good, 700)
        self.assertLess(good, 1400)

    def test_arguments_stay(self):
        check_pure(self, graph, [("enter", 1), ("jzero", 0, 2), ("leave", 1), ("done",)], 0)


class EndingTest(unittest.TestCase):
    def test_ending(self):
        self.assertEqual(ending([DONE], 0), "body")
        self.assertEqual(ending([BACK], 0), "operation")
        self.assertEqual(ending([NOP, ("jzero", 1, 3), DONE, DONE], 0), "body")
        self.assertEqual(ending([NOP, ("jzero", 1, 3), BACK, BACK], 0), "operation")

    def test_callees_and_other_routines_do_not_count(self):
        self.assertEqual(ending([("link", 2), DONE, BACK], 0), "body")
        self.assertEqual(ending([DONE, ("link", 3), BACK, BACK], 1), "operation")
        self.assertEqual(ending([("jump", 2), BACK, DONE], 0), "body")

    def test_arguments_stay(self):
        check_pure(self, ending, [NOP, DONE], 0)
