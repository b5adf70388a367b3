"""Points 27.1 and 27.2, with 0.15: accepted releases and timelines."""

import random
import unittest

from deadbeat.releases import Timeline, accepted
from tests.purity import check_pure, frozen


def taken(timeline):
    """All releases of a timeline; what is announced is taken."""
    found = []
    while timeline.next_time() is not None:
        time = timeline.next_time()
        found.append(timeline.take())
        assert found[-1][0] == time
    return found


class AcceptedTest(unittest.TestCase):
    def test_document_example(self):
        self.assertEqual(accepted([9, 0, 12, 4], 5), [0, 9])

    def test_few_times(self):
        self.assertEqual(accepted([], 5), [])
        self.assertEqual(accepted([0], 5), [0])
        self.assertEqual(accepted([7], 4194304), [7])

    def test_exactly_every_apart_and_one_less(self):
        self.assertEqual(accepted([0, 5, 10], 5), [0, 5, 10])
        self.assertEqual(accepted([0, 4, 9], 5), [0, 9])
        self.assertEqual(accepted([3, 8, 12, 13], 5), [3, 8, 13])

    def test_the_last_accepted_one_counts(self):
        """An ignored release does not make the next one too close."""
        self.assertEqual(accepted([0, 4, 8, 9, 12], 5), [0, 8])
        self.assertEqual(accepted([0, 3, 6, 9], 5), [0, 6])

    def test_equal_times(self):
        self.assertEqual(accepted([4, 4, 4], 1), [4])
        self.assertEqual(accepted([4, 9, 4, 9], 5), [4, 9])

    def test_every_of_1(self):
        self.assertEqual(accepted([3, 1, 2, 2], 1), [1, 2, 3])

    def test_any_order(self):
        chance = random.Random(1)
        for _ in range(200):
            times = [chance.randrange(60) for _ in range(chance.randrange(20))]
            every = chance.randrange(1, 15)
            found = []
            for time in range(60):
                if time in times and (not found or time >= found[-1] + every):
                    found.append(time)
            self.assertEqual(accepted(times, every), found)

    def test_great_times(self):
        great = 10 ** 5000
        self.assertEqual(accepted([great + 5, great, 0, great + 4], 5), [0, great, great + 5])

    def test_arguments_stay(self):
        times = [9, 0, 12, 4]
        check_pure(self, accepted, times, 5)
        self.assertEqual(times, [9, 0, 12, 4])


class TimelineTest(unittest.TestCase):
    def test_document_example(self):
        timeline = Timeline([(2, [0, 9]), (1, [9])])
        self.assertEqual([timeline.take(), timeline.next_time(), timeline.take(), timeline.take(), timeline.take()],
                         [(0, 2), 9, (9, 1), (9, 2), None])

    def test_nothing(self):
        for rows in ([], [(3, [])], [(3, []), (1, [])]):
            timeline = Timeline(rows)
            self.assertEqual([timeline.next_time(), timeline.take(), timeline.next_time()], [None, None, None])

    def test_after_the_end(self):
        timeline = Timeline([(3, [7])])
        self.assertEqual([timeline.take(), timeline.take(), timeline.take(), timeline.next_time()], [(7, 3), None, None, None])

    def test_next_time_does_not_take(self):
        timeline = Timeline([(3, [7, 8])])
        self.assertEqual([timeline.next_time(), timeline.next_time(), timeline.take(), timeline.next_time()], [7, 7, (7, 3), 8])

    def test_equal_times_of_several_numbers(self):
        timeline = Timeline([(10, [5, 6]), (2, [5]), (9, [5, 6]), (1, [6])])
        self.assertEqual(taken(timeline), [(5, 2), (5, 9), (5, 10), (6, 1), (6, 9), (6, 10)])

    def test_empty_rows_beside_others(self):
        self.assertEqual(taken(Timeline([(4, []), (3, [0]), (5, [])])), [(0, 3)])

    def test_what_is_returned(self):
        release = Timeline([(3, [7])]).take()
        self.assertIs(type(release), tuple)

    def test_random_rows(self):
        chance = random.Random(1)
        for _ in range(100):
            rows = [(number, sorted(chance.sample(range(30), chance.randrange(6)))) for number in chance.sample(range(1, 11), 5)]
            expected = sorted((time, number) for number, times in rows for time in times)
            self.assertEqual(taken(Timeline(rows)), expected)

    def test_great_times(self):
        great = 10 ** 5000
        self.assertEqual(taken(Timeline([(1, [great]), (2, [3, great])])), [(3, 2), (great, 1), (great, 2)])

    def test_rows_that_the_caller_changes(self):
        rows = [(2, [0, 9]), (1, [9])]
        before = frozen(rows)
        timeline = Timeline(rows)
        timeline.take()
        self.assertEqual(frozen(rows), before)
        rows[0][1].clear()
        rows.clear()
        self.assertEqual(taken(timeline), [(9, 1), (9, 2)])

    def test_two_timelines(self):
        rows = [(2, [0, 9])]
        one, other = Timeline(rows), Timeline(rows)
        self.assertEqual([one.take(), one.take(), other.take()], [(0, 2), (9, 2), (0, 2)])


if __name__ == "__main__":
    unittest.main()
