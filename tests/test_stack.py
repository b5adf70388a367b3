"""Points 26.1 and 26.2, with 0.13: the stack of begun jobs."""

import random
import unittest

from deadbeat.stack import Stack
from tests.purity import frozen


def stacked(ceilings, *jobs):
    """A stack with jobs as tuples of a number and the objects that they enter."""
    stack = Stack(ceilings)
    for number, *objects in jobs:
        stack.push(number)
        for item in objects:
            assert stack.enter_object(item)
    return stack


class StackTest(unittest.TestCase):
    def test_document_example(self):
        stack = Stack([5, 3])
        self.assertIsNone(stack.push(1))
        self.assertEqual([stack.enter_object(1), stack.level(), stack.enter_object(0), stack.level(), stack.leave_object(1)],
                         [True, 3, True, 5, False])
        stack.push(6)
        self.assertEqual([stack.enter_object(1), stack.levels()], [False, [5, 6]])

    def test_empty(self):
        for ceilings in ([], [5, 3]):
            stack = Stack(ceilings)
            self.assertEqual([stack.top(), stack.level(), stack.levels()], [0, 0, []])

    def test_top(self):
        stack = stacked([], (3,), (7,))
        self.assertEqual(stack.top(), 7)
        self.assertIs(stack.drop(), True)
        self.assertEqual(stack.top(), 3)
        self.assertIs(stack.drop(), True)
        self.assertEqual([stack.top(), stack.level(), stack.levels()], [0, 0, []])

    def test_ceilings_below_equal_and_above(self):
        for ceiling, level in ((0, 4), (3, 4), (4, 4), (5, 5), (10, 10)):
            stack = stacked([ceiling], (4, 0))
            self.assertEqual([stack.top(), stack.level(), stack.levels()], [4, level, [level]])

    def test_the_greatest_ceiling_counts(self):
        stack = stacked([6, 9, 7], (2, 0, 1, 2))
        self.assertEqual(stack.level(), 9)
        self.assertTrue(stack.leave_object(2))
        self.assertEqual(stack.level(), 9)
        self.assertTrue(stack.leave_object(1))
        self.assertEqual(stack.level(), 6)
        self.assertTrue(stack.leave_object(0))
        self.assertEqual(stack.level(), 2)

    def test_levels_of_all_jobs(self):
        stack = stacked([6, 9, 3], (2, 2), (4, 0), (7,), (8, 1))
        self.assertEqual(stack.levels(), [3, 6, 7, 9])
        self.assertEqual(stack.level(), 9)

    def test_objects_left_in_the_wrong_order(self):
        stack = stacked([5, 5, 5], (1, 0, 2))
        for item in (0, 1, 3, -1):
            self.assertIs(stack.leave_object(item), False)
        self.assertIs(stack.leave_object(2), True)
        self.assertIs(stack.leave_object(2), False)
        self.assertIs(stack.leave_object(0), True)
        self.assertIs(stack.leave_object(0), False)

    def test_object_of_a_job_below(self):
        stack = stacked([5, 5], (1, 0), (6,))
        self.assertIs(stack.enter_object(0), False)
        self.assertIs(stack.leave_object(0), False)
        self.assertEqual(stack.levels(), [5, 6])
        self.assertIs(stack.enter_object(1), True)
        stack.drop()
        self.assertIs(stack.enter_object(1), True)
        self.assertIs(stack.leave_object(1), True)
        self.assertIs(stack.leave_object(0), True)

    def test_object_that_the_job_is_in(self):
        stack = stacked([5], (1, 0))
        self.assertIs(stack.enter_object(0), False)
        self.assertIs(stack.leave_object(0), True)
        self.assertIs(stack.enter_object(0), True)

    def test_objects_that_do_not_exist(self):
        stack = stacked([5, 5], (1,))
        for item in (2, 3, 100, -1, -2, 10 ** 5000, -(10 ** 5000)):
            self.assertIs(stack.enter_object(item), False)
            self.assertIs(stack.leave_object(item), False)
        self.assertEqual(stack.levels(), [1])
        self.assertIs(stacked([], (1,)).enter_object(0), False)
        self.assertIs(stacked([], (1,)).enter_object(-1), False)

    def test_drop_of_a_job_in_an_object(self):
        stack = stacked([5, 6], (1, 0), (6, 1))
        self.assertIs(stack.drop(), False)
        self.assertEqual([stack.top(), stack.levels()], [1, [5]])
        self.assertIs(stack.enter_object(1), True)
        self.assertIs(stack.drop(), False)
        self.assertEqual(stack.levels(), [])
        stack.push(3)
        self.assertIs(stack.enter_object(0), True)

    def test_levels_that_the_caller_changes(self):
        stack = stacked([5], (1, 0), (6,))
        stack.levels().clear()
        rows = stack.levels()
        rows[0] = 9
        self.assertEqual([stack.levels(), stack.top()], [[5, 6], 6])

    def test_ceilings_that_the_caller_changes(self):
        ceilings = [5]
        stack = stacked(ceilings, (1, 0))
        self.assertEqual(ceilings, [5])
        ceilings.append(7)
        ceilings[0] = 2
        self.assertEqual([stack.level(), stack.enter_object(1)], [5, False])

    def test_failures_change_nothing(self):
        stack = stacked([5, 6], (1, 0), (6,))
        before = frozen(stack)
        for item in (0, 2, -1):
            stack.enter_object(item)
        for item in (0, 1, 2, -1):
            stack.leave_object(item)
        stack.levels()
        self.assertEqual(frozen(stack), before)

    def test_great_numbers(self):
        stack = stacked([10 ** 5000], (3, 0), (10 ** 5001,))
        self.assertEqual(stack.levels(), [10 ** 5000, 10 ** 5001])

    def test_levels_increase(self):
        """Point 26.2: jobs above the level, and ceilings that are high enough."""
        for seed in range(200):
            chance = random.Random(seed)
            uses = {number: [o for o in range(4) if chance.random() < 0.5] for number in range(1, 11)}
            ceilings = [max([number for number in uses if o in uses[number]], default=0) for o in range(4)]
            stack, inside = Stack(ceilings), []
            for _ in range(40):
                above = [number for number in range(1, 11) if number > stack.level()]
                kind = chance.choice(["push", "enter", "enter", "leave", "drop"])
                if kind == "push" and above:
                    stack.push(chance.choice(above))
                    inside.append([])
                elif inside and kind == "enter":
                    free = [o for o in uses[stack.top()] if o not in inside[-1]]
                    if free:
                        self.assertTrue(stack.enter_object(free[0]))
                        inside[-1].append(free[0])
                elif inside and kind == "leave" and inside[-1]:
                    self.assertTrue(stack.leave_object(inside[-1].pop()))
                elif inside and kind == "drop":
                    self.assertEqual(stack.drop(), inside.pop() == [])
                levels = stack.levels()
                self.assertEqual(levels, sorted(set(levels)))
                self.assertEqual(stack.level(), levels[-1] if levels else 0)


if __name__ == "__main__":
    unittest.main()
