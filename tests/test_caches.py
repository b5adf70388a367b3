import copy
import random
import unittest

from deadbeat.caches import Cache
from deadbeat.errors import PlanError


def filled(sets, ways, size, rows):
    cache = Cache(sets, ways, size)
    cache.fill(rows)
    return cache


class SizesTest(unittest.TestCase):
    def bad(self, sets, ways, size):
        with self.assertRaises(PlanError) as caught:
            Cache(sets, ways, size)
        self.assertIs(type(caught.exception.at), int)

    def test_fields(self):
        for sets in (1, 2, 3, 63, 64):
            for ways in (1, 2, 3, 4):
                for size in (1, 2, 4, 8, 16):
                    cache = Cache(sets, ways, size)
                    self.assertEqual((cache.sets, cache.ways, cache.size), (sets, ways, size))
                    self.assertEqual(cache.rows, [[]] * sets)

    def test_ranges(self):
        for sets in (-1, 0, 65, 128):
            self.bad(sets, 1, 1)
        for ways in (-1, 0, 5, 8):
            self.bad(1, ways, 1)
        for size in (-1, 0, 3, 5, 6, 7, 9, 12, 15, 17, 32):
            self.bad(1, 1, size)
        self.bad(0, 0, 0)

    def test_sets_share_no_list(self):
        cache = Cache(3, 2, 1)
        cache.rows[0].append(0)
        self.assertEqual(cache.rows, [[0], [], []])
        self.assertEqual(Cache(3, 2, 1).rows, [[], [], []])


class UseTest(unittest.TestCase):
    def test_document_example(self):
        cache = Cache(2, 2, 4)
        self.assertEqual([cache.read(0), cache.read(3), cache.read(8), cache.read(16), cache.read(1)],
                         [False, True, False, False, False])
        self.assertEqual(cache.rows, [[0, 4], []])
        self.assertIs(cache.write(4), False)

    def test_lines_and_sets(self):
        for size in (1, 2, 4, 8, 16):
            cache = Cache(3, 4, size)
            self.assertIs(cache.read(5 * size), False)
            self.assertEqual(cache.rows, [[], [], [5]])
            self.assertIs(cache.read(6 * size - 1), True)
            self.assertIs(cache.read(6 * size), False)
            self.assertIs(cache.read(4 * size), False)
            self.assertEqual(cache.rows, [[6], [4], [5]])

    def test_last_address(self):
        cache = Cache(64, 1, 1)
        self.assertIs(cache.read(16383), False)
        self.assertEqual(cache.rows[63], [16383])
        cache = Cache(1, 1, 16)
        cache.read(16383)
        self.assertEqual(cache.rows, [[1023]])

    def test_hits_change_the_order(self):
        cache = filled(1, 4, 1, [[1, 2, 3, 4]])
        for address, row in ((3, [3, 1, 2, 4]), (4, [4, 3, 1, 2]), (4, [4, 3, 1, 2]), (3, [3, 4, 1, 2])):
            self.assertIs(cache.read(address), True)
            self.assertEqual(cache.rows, [row])

    def test_misses_remove_the_least_recently_used(self):
        for ways in (1, 2, 3, 4):
            cache = Cache(1, ways, 1)
            for line in range(10):
                self.assertIs(cache.read(line), False)
                self.assertEqual(cache.rows, [list(range(line, -1, -1))[:ways]])
        cache = filled(1, 2, 1, [[1, 2]])
        cache.read(2)
        cache.read(3)
        self.assertEqual(cache.rows, [[3, 2]])

    def test_a_set_that_is_not_full_loses_nothing(self):
        cache = filled(2, 3, 1, [[2], [1, 3]])
        cache.read(4)
        cache.read(5)
        self.assertEqual(cache.rows, [[4, 2], [5, 1, 3]])

    def test_writes(self):
        cache = filled(2, 3, 2, [[2, 4, 0], [1]])
        self.assertIs(cache.write(12), False)
        self.assertIs(cache.write(6), False)
        self.assertEqual(cache.rows, [[2, 4, 0], [1]])
        self.assertIs(cache.write(1), True)
        self.assertEqual(cache.rows, [[0, 2, 4], [1]])
        self.assertIs(cache.write(9), True)
        self.assertEqual(cache.rows, [[4, 0, 2], [1]])
        self.assertIs(cache.write(3), True)
        self.assertEqual(cache.rows, [[4, 0, 2], [1]])

    def test_write_into_an_empty_cache(self):
        cache = Cache(1, 4, 1)
        self.assertIs(cache.write(0), False)
        self.assertEqual(cache.rows, [[]])
        self.assertIs(cache.read(0), False)
        self.assertIs(cache.write(0), True)

    def test_holds(self):
        cache = filled(2, 3, 4, [[2, 4], [1]])
        before = copy.deepcopy(cache.rows)
        for address in range(48):
            self.assertIs(cache.holds(address), address // 4 in (1, 2, 4))
            self.assertEqual(cache.rows, before)

    def test_random_accesses(self):
        """Compares a cache with the times of the last uses of its lines."""
        for seed in range(60):
            chance = random.Random(seed)
            sets, ways, size = chance.randrange(1, 6), chance.randrange(1, 5), chance.choice([1, 2, 4, 8, 16])
            cache, used = Cache(sets, ways, size), {}
            for now in range(200):
                address, name = chance.randrange(size * sets * 6), chance.choice(["read", "read", "write", "holds"])
                line = address // size
                self.assertIs(getattr(cache, name)(address), line in used)
                if name == "read" or (name == "write" and line in used):
                    used[line] = now
                    rivals = [other for other in used if other % sets == line % sets]
                    if len(rivals) > ways:
                        del used[min(rivals, key=used.get)]
                rows = [sorted([other for other in used if other % sets == number], key=lambda x: -used[x])
                        for number in range(sets)]
                self.assertEqual(cache.rows, rows)


class FillTest(unittest.TestCase):
    def bad(self, cache, rows):
        before, given = copy.deepcopy(cache.rows), copy.deepcopy(rows)
        with self.assertRaises(PlanError) as caught:
            cache.fill(rows)
        self.assertIs(type(caught.exception.at), int)
        self.assertEqual((cache.rows, rows), (before, given))

    def test_good(self):
        for rows in ([[], []], [[0], [1]], [[4, 2], []], [[16382, 0], [1, 16383]]):
            cache = filled(2, 2, 4, [[6, 8], [3, 5]])
            self.assertIsNone(cache.fill(rows))
            self.assertEqual(cache.rows, rows)
        self.assertEqual(filled(1, 4, 16, [[9, 16383, 0, 7]]).rows, [[9, 16383, 0, 7]])

    def test_number_of_sets(self):
        cache = filled(2, 2, 1, [[6, 8], [3, 5]])
        for rows in ([], [[]], [[0]], [[], [], []], [[0], [1], [2]]):
            self.bad(cache, rows)

    def test_too_long(self):
        for ways in (1, 2, 3, 4):
            row = [3, 7, 0, 9, 5][:ways + 1]
            cache = filled(1, ways, 1, [row[1:]])
            self.bad(cache, [row])
        self.bad(filled(2, 2, 1, [[0], [1]]), [[], [1, 3, 5]])

    def test_line_of_another_set(self):
        cache = filled(3, 2, 1, [[3, 0], [1], [2]])
        for rows in ([[1], [], []], [[0], [1], [3]], [[0, 2], [], []], [[2], [0], [1]]):
            self.bad(cache, rows)

    def test_line_twice(self):
        self.bad(filled(2, 3, 1, [[], [1]]), [[], [1, 1]])
        self.bad(filled(2, 3, 1, [[], [1]]), [[2, 0, 2], []])

    def test_lines_out_of_range(self):
        for line in (-1, -2, 16384, 16385, 2 ** 20):
            self.bad(filled(1, 2, 16, [[1, 0]]), [[line]])
            self.bad(filled(1, 2, 16, [[1, 0]]), [[0, line]])
        self.bad(filled(2, 2, 1, [[0], [1]]), [[-2], []])
        self.bad(filled(2, 2, 1, [[0], [1]]), [[16384], []])

    def test_first_set_good_and_last_one_bad(self):
        self.bad(filled(3, 1, 1, [[3], [4], [5]]), [[0], [1], [3]])

    def test_shares_no_list(self):
        rows = [[2, 0], [1]]
        cache = filled(2, 2, 1, rows)
        rows[0].append(4)
        rows.append([])
        self.assertEqual(cache.rows, [[2, 0], [1]])
        rows = [[2, 0], [1]]
        cache = filled(2, 2, 1, rows)
        cache.read(3)
        cache.rows[0].clear()
        self.assertEqual(rows, [[2, 0], [1]])

    def test_own_contents(self):
        cache = filled(2, 2, 1, [[2, 0], [1]])
        cache.fill(cache.rows)
        self.assertEqual(cache.rows, [[2, 0], [1]])


class DuplicateTest(unittest.TestCase):
    def test_equal(self):
        cache = filled(3, 2, 8, [[3, 0], [], [5]])
        other = cache.duplicate()
        self.assertIsInstance(other, Cache)
        self.assertEqual((other.sets, other.ways, other.size, other.rows), (3, 2, 8, [[3, 0], [], [5]]))

    def test_independent(self):
        cache = filled(2, 2, 1, [[2, 0], [1]])
        other, third = cache.duplicate(), cache.duplicate()
        cache.read(4)
        other.read(3)
        self.assertEqual(cache.rows, [[4, 2], [1]])
        self.assertEqual(other.rows, [[2, 0], [3, 1]])
        self.assertEqual(third.rows, [[2, 0], [1]])
        third.rows.append([])
        self.assertEqual(cache.duplicate().rows, [[4, 2], [1]])
