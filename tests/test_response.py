"""Points 22.1 to 22.4: the demand of a window, and response times."""

import random
import unittest
from fractions import Fraction
from math import ceil

from deadbeat.response import demand, response_time
from tests.purity import check_pure


def plain_demand(window, own, blocked, above, releases, release_cost, slack):
    """The demand in the words of point 22.2."""
    jobs = sum(cost * ceil(Fraction(window, every)) for every, cost in above)
    return own + blocked + jobs + sum(release_cost * ceil(Fraction(window + slack, every)) for every in releases)


def plain_response(limit, *given):
    """The response time in the words of point 22.3."""
    return next((window for window in range(1, limit + 1) if plain_demand(window, *given) <= window), None)


class DemandTest(unittest.TestCase):
    def test_document_example(self):
        self.assertEqual(demand(10, 3, 1, [(4, 2)], [4, 20], 1, 0), 14)

    def test_empty_lists(self):
        self.assertEqual(demand(1, 1, 0, [], [], 0, 0), 1)
        self.assertEqual(demand(999, 7, 5, [], [], 64, 22), 12)

    def test_own_and_blocked(self):
        self.assertEqual(demand(10, 4, 0, [(4, 2)], [4, 20], 1, 0), 14)
        self.assertEqual(demand(10, 3, 0, [(4, 2)], [4, 20], 1, 0), 13)

    def test_windows_at_multiples(self):
        self.assertEqual([demand(window, 1, 0, [(4, 10)], [], 0, 0) for window in (1, 3, 4, 5, 7, 8, 9)],
                         [11, 11, 11, 21, 21, 21, 31])
        self.assertEqual([demand(window, 1, 0, [], [4], 10, 0) for window in (1, 3, 4, 5, 7, 8, 9)],
                         [11, 11, 11, 21, 21, 21, 31])

    def test_every_of_1(self):
        self.assertEqual([demand(window, 1, 0, [(1, 3)], [1], 2, 0) for window in (1, 2, 10)], [6, 11, 51])

    def test_slack_counts_for_releases_only(self):
        self.assertEqual([demand(3, 1, 0, [(4, 100)], [4], 10, slack) for slack in (0, 1, 2, 5, 6)],
                         [111, 111, 121, 121, 131])
        self.assertEqual(demand(1, 1, 0, [], [8], 10, 8), 21)

    def test_costs_of_0(self):
        self.assertEqual(demand(100, 1, 0, [(1, 0)], [1, 1], 0, 9), 1)

    def test_each_item_counts(self):
        self.assertEqual(demand(10, 1, 0, [(4, 1), (4, 1), (5, 10), (100, 100)], [], 0, 0), 1 + 3 + 3 + 20 + 100)
        self.assertEqual(demand(10, 1, 0, [], [4, 4, 5, 100], 1, 0), 1 + 3 + 3 + 2 + 1)

    def test_ten_items(self):
        above = [(every, 100) for every in range(1, 11)]
        self.assertEqual(demand(10, 1, 2, above, list(range(1, 11)), 1, 0), 3 + 101 * (10 + 5 + 4 + 3 + 2 * 5 + 1))

    def test_great_numbers(self):
        great = 10 ** 5000
        self.assertEqual(demand(great, 1, 0, [(4194304, 1)], [], 0, 0), 1 - (-great // 4194304))
        self.assertEqual(demand(1, great, great, [(1, great)], [1], great, great), 4 * great + great * great)
        self.assertEqual(demand(3 * great + 1, 1, 0, [(3, 1)], [3], 1, 1), 3 + 2 * great)

    def test_random_numbers(self):
        chance = random.Random(1)
        for _ in range(500):
            above = [(chance.randrange(1, 30), chance.randrange(30)) for _ in range(chance.randrange(11))]
            releases = [chance.randrange(1, 30) for _ in range(chance.randrange(11))]
            given = (chance.randrange(1, 9), chance.randrange(9), above, releases, chance.randrange(5), chance.randrange(40))
            values = [demand(window, *given) for window in range(1, 80)]
            self.assertEqual(values, [plain_demand(window, *given) for window in range(1, 80)])
            self.assertEqual(values, sorted(values))

    def test_arguments_stay(self):
        check_pure(self, demand, 10, 3, 1, [(4, 2)], [4, 20], 1, 0)


class ResponseTest(unittest.TestCase):
    def test_document_examples(self):
        self.assertEqual(response_time(50, 3, 1, [(4, 2)], [], 0, 0), 8)
        self.assertIsNone(response_time(50, 3, 1, [(2, 2)], [], 0, 0))

    def test_alone(self):
        self.assertEqual(response_time(1, 1, 0, [], [], 0, 0), 1)
        self.assertEqual(response_time(12, 7, 5, [], [], 64, 22), 12)
        self.assertEqual(response_time(4194304, 4194303, 1, [], [], 0, 0), 4194304)

    def test_limit(self):
        for given in ((3, 1, [(4, 2)], [], 0, 0), (7, 5, [], [], 64, 22), (2, 3, [(20, 4)], [9, 50], 1, 5)):
            response = response_time(4194304, *given)
            self.assertEqual(response_time(response, *given), response)
            self.assertIsNone(response_time(response - 1, *given))
            self.assertEqual(response_time(response + 1, *given), response)

    def test_the_least_window_counts(self):
        """Longer windows are enough, too, but some in between are not."""
        given = (2, 0, [(4, 2)], [], 0, 0)
        self.assertEqual([window for window in range(1, 9) if demand(window, *given) <= window], [4, 6, 7, 8])
        self.assertEqual(response_time(50, *given), 4)
        self.assertEqual(response_time(50, 2, 0, [(3, 1), (50, 1)], [], 0, 0), 5)

    def test_never(self):
        for above, releases, cost in (([(1, 1)], [], 0), ([(2, 1), (4, 2)], [], 0), ([], [1], 1), ([(2, 1)], [4, 4], 1),
                                      ([(3, 2), (6, 1)], [6], 1), ([(9, 10)], [], 0), ([], [5] * 10, 64)):
            self.assertIsNone(response_time(4194304, 1, 0, above, releases, cost, 0))

    def test_nearly_all_time_is_needed(self):
        self.assertEqual(response_time(4194304, 1, 0, [(4194304, 4194303)], [], 0, 0), 4194304)
        self.assertIsNone(response_time(4194303, 1, 0, [(4194304, 4194303)], [], 0, 0))
        self.assertIsNone(response_time(4194304, 2, 0, [(4194304, 4194303)], [], 0, 0))
        self.assertEqual(response_time(4194304, 1, 0, [(2, 1), (3, 1), (7, 1)], [], 0, 0),
                         plain_response(50, 1, 0, [(2, 1), (3, 1), (7, 1)], [], 0, 0))

    def test_limit_of_1(self):
        self.assertIsNone(response_time(1, 1, 1, [], [], 0, 0))
        self.assertIsNone(response_time(1, 2, 0, [], [], 0, 0))
        self.assertIsNone(response_time(1, 1, 0, [(9, 1)], [], 0, 0))
        self.assertIsNone(response_time(1, 1, 0, [], [9], 1, 0))

    def test_slack(self):
        self.assertEqual([response_time(50, 3, 0, [], [8], 2, slack) for slack in (0, 3, 4, 10)], [5, 5, 7, 9])

    def test_great_numbers(self):
        great = 10 ** 5000
        self.assertIsNone(response_time(4194304, great, 0, [], [], 0, 0))
        self.assertIsNone(response_time(4194304, 1, great, [], [], 0, 0))
        self.assertIsNone(response_time(4194304, 1, 0, [(4194304, great)], [], 0, 0))
        self.assertIsNone(response_time(4194304, 1, 0, [], [4194304], great, 0))
        self.assertIsNone(response_time(4194304, 1, 0, [], [4194304], 1, great))
        self.assertEqual(response_time(4194304, 1, 0, [], [4194304], 0, great), 1)

    def test_random_numbers(self):
        found = set()
        for seed in range(600):
            chance = random.Random(seed)
            above = [(chance.randrange(1, 60), chance.randrange(9)) for _ in range(chance.randrange(6))]
            releases = [chance.randrange(5, 60) for _ in range(chance.randrange(6))]
            given = (chance.randrange(1, 9), chance.randrange(9), above, releases, chance.randrange(3), chance.randrange(30))
            limit = chance.choice([5, 20, 150])
            response = response_time(limit, *given)
            self.assertEqual(response, plain_response(limit, *given), (limit, given))
            found.add(response)
        self.assertGreater(len(found), 40)
        self.assertIn(None, found)

    def test_ten_items(self):
        above = [(100 + every, 5) for every in range(10)]
        given = (9, 8, above, [every for every, _ in above], 3, 22)
        self.assertEqual(response_time(4194304, *given), plain_response(500, *given))

    def test_arguments_stay(self):
        check_pure(self, response_time, 50, 3, 1, [(4, 2)], [4, 20], 1, 0)


if __name__ == "__main__":
    unittest.main()
