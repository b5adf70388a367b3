"""Point 25.1: the queues of release times, and the jobs that have begun."""

import random
import unittest

from deadbeat.waiting import Waiting


def filled(*rows):
    """A waiting list at which releases have arrived, as pairs of a number and a time."""
    waiting = Waiting()
    for number, time in rows:
        waiting.arrive(number, time)
    return waiting


class WaitingTest(unittest.TestCase):
    def test_document_example(self):
        waiting = filled((2, 10), (2, 15), (1, 12))
        self.assertEqual([waiting.highest(), waiting.begin(2), waiting.highest(), waiting.times(2)], [2, 10, 1, [15]])
        self.assertIsNone(waiting.end(2))
        self.assertEqual(waiting.highest(), 2)

    def test_empty(self):
        waiting = Waiting()
        self.assertEqual(waiting.highest(), 0)
        self.assertEqual([waiting.times(number) for number in range(1, 11)], [[]] * 10)

    def test_methods_that_return_nothing(self):
        waiting = Waiting()
        self.assertIsNone(waiting.arrive(3, 7))
        waiting.begin(3)
        self.assertIsNone(waiting.end(3))

    def test_all_numbers(self):
        waiting = filled(*[(number, 100 - number) for number in range(1, 11)])
        for number in range(10, 0, -1):
            self.assertEqual(waiting.highest(), number)
            self.assertEqual(waiting.times(number), [100 - number])
            self.assertEqual(waiting.begin(number), 100 - number)
            self.assertEqual(waiting.times(number), [])
        self.assertEqual(waiting.highest(), 0)

    def test_order_of_arrival(self):
        """Neither the numbers nor the times decide which release of a queue is the first one."""
        waiting = filled((4, 30), (4, 10), (4, 20), (4, 10))
        self.assertEqual(waiting.times(4), [30, 10, 20, 10])
        found = []
        while waiting.highest():
            found.append(waiting.begin(4))
            waiting.end(4)
        self.assertEqual(found, [30, 10, 20, 10])

    def test_equal_times(self):
        waiting = filled((5, 8), (5, 8), (6, 8))
        self.assertEqual([waiting.begin(6), waiting.begin(5), waiting.times(5), waiting.times(6)], [8, 8, [8], []])

    def test_a_number_that_has_begun_is_not_ready(self):
        waiting = filled((9, 1), (9, 2), (3, 0))
        waiting.begin(9)
        self.assertEqual(waiting.highest(), 3)
        waiting.begin(3)
        self.assertEqual(waiting.highest(), 0)
        waiting.arrive(9, 5)
        self.assertEqual(waiting.highest(), 0)
        waiting.end(3)
        self.assertEqual(waiting.highest(), 0)
        waiting.end(9)
        self.assertEqual([waiting.highest(), waiting.times(9)], [9, [2, 5]])

    def test_a_job_that_ends_without_another_one(self):
        waiting = filled((7, 1))
        waiting.begin(7)
        waiting.end(7)
        self.assertEqual(waiting.highest(), 0)
        waiting.arrive(7, 4)
        self.assertEqual([waiting.highest(), waiting.begin(7)], [7, 4])

    def test_release_at_time_0(self):
        waiting = filled((1, 0))
        self.assertEqual([waiting.highest(), waiting.begin(1)], [1, 0])

    def test_great_times(self):
        self.assertEqual(filled((1, 10 ** 5000)).begin(1), 10 ** 5000)

    def test_times_that_the_caller_changes(self):
        waiting = filled((2, 10), (2, 15))
        rows = waiting.times(2)
        rows.append(99)
        rows[0] = 5
        self.assertEqual([waiting.times(2), waiting.begin(2), waiting.times(2)], [[10, 15], 10, [15]])
        waiting.times(8).append(3)
        self.assertEqual([waiting.times(8), waiting.highest()], [[], 0])

    def test_queues_of_two_objects(self):
        one, other = filled((2, 10)), Waiting()
        self.assertEqual([one.highest(), other.highest(), other.times(2)], [2, 0, []])

    def test_random_steps(self):
        for seed in range(100):
            chance = random.Random(seed)
            waiting, queues, begun = Waiting(), {number: [] for number in range(1, 11)}, set()
            for _ in range(60):
                ready = [number for number, rows in queues.items() if rows and number not in begun]
                kind = chance.choice(["arrive", "arrive", "begin", "end"])
                number = chance.randrange(1, 11)
                if kind == "arrive":
                    time = chance.randrange(20)
                    waiting.arrive(number, time)
                    queues[number].append(time)
                elif kind == "begin" and ready:
                    number = chance.choice(ready)
                    self.assertEqual(waiting.begin(number), queues[number].pop(0))
                    begun.add(number)
                elif kind == "end" and begun:
                    number = chance.choice(sorted(begun))
                    waiting.end(number)
                    begun.remove(number)
                ready = [number for number, rows in queues.items() if rows and number not in begun]
                self.assertEqual(waiting.highest(), max(ready, default=0))
                self.assertEqual([waiting.times(number) for number in range(1, 11)], list(queues.values()))


if __name__ == "__main__":
    unittest.main()
