"""Points 17.1 to 17.8: lines that are surely cached."""

import random
import unittest

from deadbeat.cpu import Costs
from deadbeat.loops import follow, loops, places
from deadbeat.must import after, data_lines, hits, known_from, meet, use_line, use_some
from tests import naive
from tests.purity import check_pure
from tests.routines import random_code
from tests.runs import Run, new_board

DONE, NOP = ("done",), ("set", 0, 0)
CALM = [("set", 1, 5), ("high", 1, 5), ("calc", "add", 1, 2, 3), ("jump", 5), ("jzero", 1, 5), ("count", 1, 5),
        ("again", 1, 5), ("back",), ("done",), ("enter", 1), ("leave", 1), ("in", 1, 5), ("out", 1, 5)]


class UseLineTest(unittest.TestCase):
    def test_document_examples(self):
        self.assertEqual(use_line((1, 2, 1), {4: 0, 7: 1}, 7), {4: 1, 7: 0})
        self.assertEqual(use_line((1, 2, 1), {4: 0, 7: 1}, 5), {4: 1, 5: 0})

    def test_nothing_known(self):
        self.assertEqual(use_line((1, 1, 1), {}, 5), {5: 0})
        self.assertEqual(use_line((4, 4, 16), {}, 0), {0: 0})

    def test_known_with_age_0(self):
        self.assertEqual(use_line((1, 4, 1), {1: 0, 2: 1, 3: 3}, 1), {1: 0, 2: 1, 3: 3})
        self.assertEqual(use_line((1, 1, 1), {1: 0}, 1), {1: 0})

    def test_known_with_the_greatest_age(self):
        self.assertEqual(use_line((1, 4, 1), {1: 0, 2: 1, 3: 3, 4: 2}, 3), {1: 1, 2: 2, 3: 0, 4: 3})

    def test_known_in_between(self):
        self.assertEqual(use_line((1, 4, 1), {1: 0, 2: 2, 3: 3, 4: 1}, 2), {1: 1, 2: 0, 3: 3, 4: 2})

    def test_equal_ages(self):
        """Ages are bounds, so several lines may have the same one; only smaller ages increase."""
        self.assertEqual(use_line((1, 4, 1), {1: 2, 2: 2, 3: 0}, 1), {1: 0, 2: 2, 3: 1})
        self.assertEqual(use_line((1, 3, 1), {1: 2, 2: 2, 3: 2}, 4), {4: 0})

    def test_not_known(self):
        self.assertEqual(use_line((1, 4, 1), {1: 0, 2: 3, 3: 2}, 9), {1: 1, 3: 3, 9: 0})
        self.assertEqual(use_line((1, 1, 1), {1: 0}, 9), {9: 0})

    def test_other_sets(self):
        self.assertEqual(use_line((2, 2, 1), {2: 1, 3: 1, 5: 0}, 4), {3: 1, 4: 0, 5: 0})
        self.assertEqual(use_line((2, 2, 1), {2: 1, 3: 1, 5: 0}, 3), {2: 1, 3: 0, 5: 1})
        self.assertEqual(use_line((3, 1, 1), {0: 0, 1: 0, 2: 0}, 4), {0: 0, 2: 0, 4: 0})

    def test_results_are_new(self):
        check_pure(self, use_line, (1, 2, 1), {4: 0, 7: 1}, 7)
        check_pure(self, use_line, (1, 2, 1), {4: 0}, 4)
        check_pure(self, use_line, (2, 2, 1), {5: 0}, 4)


class UseSomeTest(unittest.TestCase):
    def test_one_line(self):
        for known in ({}, {4: 0, 7: 1}, {5: 1, 4: 0}, {5: 0}):
            self.assertEqual(use_some((1, 2, 1), known, [5]), use_line((1, 2, 1), known, 5))

    def test_several_in_one_set(self):
        self.assertEqual(use_some((1, 3, 1), {1: 0, 2: 1, 3: 2}, [8, 9]), {1: 1, 2: 2})
        self.assertEqual(use_some((1, 3, 1), {1: 0, 2: 1, 3: 2}, [1, 2]), {1: 1, 2: 2})
        self.assertEqual(use_some((1, 1, 1), {1: 0}, [1, 2]), {})
        self.assertEqual(use_some((1, 2, 1), {}, [1, 2]), {})

    def test_several_sets(self):
        known = {0: 0, 1: 0, 2: 0, 3: 1, 4: 1, 5: 0}
        self.assertEqual(use_some((3, 2, 1), known, [6, 7]), {0: 1, 1: 1, 2: 0, 5: 0})
        self.assertEqual(use_some((3, 2, 1), known, [2, 3, 4]), {0: 1, 1: 1, 2: 1, 5: 1})
        self.assertEqual(use_some((3, 2, 1), known, [0, 3]), {0: 1, 1: 0, 2: 0, 4: 1, 5: 0})

    def test_a_set_that_occurs_twice_ages_once(self):
        self.assertEqual(use_some((2, 4, 1), {0: 0, 1: 0}, [2, 4, 6]), {0: 1, 1: 0})

    def test_results_are_new(self):
        check_pure(self, use_some, (1, 2, 1), {4: 0, 7: 1}, [5, 6])
        check_pure(self, use_some, (1, 2, 1), {4: 0, 7: 1}, [4])
        check_pure(self, use_some, (2, 2, 1), {4: 0}, [5, 7])


class MeetTest(unittest.TestCase):
    def test_meet(self):
        self.assertEqual(meet({}, {}), {})
        self.assertEqual(meet({1: 0}, {}), {})
        self.assertEqual(meet({}, {1: 0}), {})
        self.assertEqual(meet({1: 0, 2: 1}, {3: 0, 4: 1}), {})
        self.assertEqual(meet({1: 0, 2: 3, 5: 1}, {1: 2, 2: 1, 4: 0}), {1: 2, 2: 3})
        self.assertEqual(meet({1: 0, 2: 1}, {1: 0, 2: 1}), {1: 0, 2: 1})

    def test_results_are_new(self):
        check_pure(self, meet, {1: 0, 2: 3}, {1: 2})
        check_pure(self, meet, {1: 0}, {1: 0})
        known = {1: 0}
        meet(known, known)[2] = 5
        self.assertEqual(known, {1: 0})


class DataLinesTest(unittest.TestCase):
    def test_other_instructions(self):
        for row in CALM + [("link", 5)]:
            self.assertEqual(data_lines((1, 1, 1), row), [])

    def test_load_and_store(self):
        for name in ("load", "store"):
            for size in (1, 2, 4, 8, 16):
                for address in (0, 5, 15, 16, 16383):
                    self.assertEqual(data_lines((3, 2, size), (name, 1, address)), [address // size])

    def test_indexed(self):
        for name in ("loadx", "storex"):
            for size in (1, 2, 4, 8, 16):
                for address in (0, 5, 15, 16, 16320):
                    for many in (1, 2, 3, 64):
                        lines = sorted({a // size for a in range(address, address + many)})
                        self.assertEqual(data_lines((3, 2, size), (name, 1, 2, address, many)), lines)

    def test_examples(self):
        self.assertEqual(data_lines((1, 1, 4), ("loadx", 1, 2, 6, 3)), [1, 2])
        self.assertEqual(data_lines((1, 1, 4), ("loadx", 1, 2, 4, 4)), [1])
        self.assertEqual(data_lines((1, 1, 16), ("storex", 1, 2, 15, 64)), [0, 1, 2, 3, 4])

    def test_results_are_new(self):
        check_pure(self, data_lines, (1, 1, 4), ("loadx", 1, 2, 6, 3))
        check_pure(self, data_lines, (1, 1, 4), ("load", 1, 6))
        check_pure(self, data_lines, (1, 1, 4), DONE)


def processor(code_shape, data_shape, **costs):
    return (code_shape, data_shape, Costs(**costs))


class AfterTest(unittest.TestCase):
    def data_after(self, shape, row, known):
        code, data = after(processor((1, 1, 1), shape), [NOP, row], 1, {}, known)
        self.assertEqual(code, {1: 0})
        return data

    def test_code_lines(self):
        for size, p, line in ((1, 5, 5), (2, 5, 2), (4, 3, 0), (4, 4, 1), (16, 15, 0)):
            rows = after(processor((1, 2, size), (1, 1, 1)), [NOP] * 20, p, {9: 0, 8: 1}, {3: 0})
            self.assertEqual(rows, ({9: 1, line: 0}, {3: 0}))

    def test_code_lines_of_every_instruction(self):
        for row in CALM + [("load", 1, 5), ("store", 1, 5), ("loadx", 1, 2, 5, 3), ("storex", 1, 2, 5, 3)]:
            self.assertEqual(after(processor((1, 2, 1), (1, 1, 1)), [row], 0, {9: 0, 8: 1}, {})[0], {9: 1, 0: 0})

    def test_instructions_without_data(self):
        for row in CALM:
            self.assertEqual(self.data_after((1, 2, 4), row, {1: 0, 2: 1}), {1: 0, 2: 1})

    def test_link(self):
        self.assertEqual(after(processor((1, 4, 1), (1, 4, 1)), [("link", 0)], 0, {0: 0, 1: 1}, {2: 0, 3: 1}), ({}, {}))

    def test_load(self):
        self.assertEqual(self.data_after((1, 2, 4), ("load", 1, 9), {1: 0, 2: 1}), {1: 1, 2: 0})
        self.assertEqual(self.data_after((1, 2, 4), ("load", 1, 12), {1: 0, 2: 1}), {1: 1, 3: 0})

    def test_load_of_one_of_several_cells(self):
        self.assertEqual(self.data_after((1, 2, 4), ("loadx", 1, 2, 8, 4), {1: 0, 2: 1}), {1: 1, 2: 0})
        self.assertEqual(self.data_after((1, 2, 4), ("loadx", 1, 2, 8, 5), {1: 0, 2: 1}), {1: 1})
        self.assertEqual(self.data_after((1, 3, 4), ("loadx", 1, 2, 4, 8), {1: 0, 2: 1}), {1: 1, 2: 2})
        self.assertEqual(self.data_after((4, 1, 4), ("loadx", 1, 2, 4, 8), {0: 0, 1: 0, 2: 0, 3: 0}), {0: 0, 3: 0})

    def test_store(self):
        self.assertEqual(self.data_after((1, 2, 4), ("store", 1, 9), {1: 0, 2: 1}), {1: 1, 2: 0})
        self.assertEqual(self.data_after((1, 2, 4), ("store", 1, 12), {1: 0, 2: 1}), {1: 1})
        self.assertEqual(self.data_after((2, 2, 4), ("store", 1, 12), {1: 0, 2: 1}), {1: 1, 2: 1})
        self.assertEqual(self.data_after((1, 1, 4), ("store", 1, 12), {}), {})

    def test_store_to_one_of_several_cells(self):
        self.assertEqual(self.data_after((1, 2, 4), ("storex", 1, 2, 8, 4), {1: 0, 2: 1}), {1: 1, 2: 0})
        self.assertEqual(self.data_after((1, 2, 4), ("storex", 1, 2, 12, 4), {1: 0, 2: 1}), {1: 1})
        self.assertEqual(self.data_after((1, 2, 4), ("storex", 1, 2, 8, 5), {1: 0, 2: 1}), {1: 1})
        self.assertEqual(self.data_after((1, 3, 4), ("storex", 1, 2, 4, 8), {1: 0, 2: 1}), {1: 1, 2: 2})
        self.assertEqual(self.data_after((1, 3, 4), ("storex", 1, 2, 8, 8), {1: 0, 2: 1}), {1: 1, 2: 2})
        self.assertEqual(self.data_after((4, 1, 4), ("storex", 1, 2, 4, 8), {0: 0, 1: 0, 2: 0, 3: 0}), {0: 0, 3: 0})

    def test_each_cache_has_its_own_shape(self):
        rows = after(processor((2, 1, 2), (1, 2, 8)), [NOP] * 4 + [("load", 1, 17)], 4, {0: 0, 1: 0}, {0: 0, 1: 1})
        self.assertEqual(rows, ({1: 0, 2: 0}, {0: 1, 2: 0}))

    def test_results_are_new(self):
        for row in (NOP, ("load", 1, 5), ("store", 1, 5), ("store", 1, 0), ("link", 0), ("loadx", 1, 2, 0, 8), DONE):
            check_pure(self, after, processor((1, 2, 1), (1, 2, 4)), [row], 0, {0: 0}, {1: 0})


class HitsTest(unittest.TestCase):
    def of(self, row, code=(), data=()):
        return hits(processor((2, 3, 2), (1, 2, 4)), [NOP, NOP, row], 2, dict(code), dict(data))

    def test_fetch(self):
        self.assertEqual(self.of(NOP), (False, True))
        self.assertEqual(self.of(NOP, {1: 0}), (True, True))
        self.assertEqual(self.of(NOP, {1: 2}), (True, True))
        self.assertEqual(self.of(NOP, {0: 0, 2: 0}), (False, True))

    def test_no_loads(self):
        for row in CALM + [("link", 0), ("store", 1, 5), ("storex", 1, 2, 5, 8)]:
            self.assertEqual(self.of(row), (False, True))
            self.assertEqual(self.of(row, {1: 0}, {1: 0}), (True, True))

    def test_load(self):
        self.assertEqual(self.of(("load", 1, 5)), (False, False))
        self.assertEqual(self.of(("load", 1, 5), {}, {1: 1}), (False, True))
        self.assertEqual(self.of(("load", 1, 5), {1: 0}, {0: 0, 2: 0}), (True, False))

    def test_indexed_load(self):
        self.assertEqual(self.of(("loadx", 1, 2, 4, 4), {}, {1: 0}), (False, True))
        self.assertEqual(self.of(("loadx", 1, 2, 4, 5), {}, {1: 0}), (False, False))
        self.assertEqual(self.of(("loadx", 1, 2, 4, 5), {}, {2: 0}), (False, False))
        self.assertEqual(self.of(("loadx", 1, 2, 4, 5), {}, {1: 0, 2: 1}), (False, True))
        self.assertEqual(self.of(("loadx", 1, 2, 3, 6), {}, {1: 0, 2: 1}), (False, False))

    def test_results_are_truth_values(self):
        for known in ({}, {1: 0}):
            for row in (NOP, ("load", 1, 5)):
                for hit in self.of(row, known, known):
                    self.assertIs(type(hit), bool)

    def test_arguments_stay(self):
        check_pure(self, hits, processor((1, 2, 1), (1, 2, 4)), [("load", 1, 5)], 0, {0: 0}, {1: 0})


def naive_use(shape, known, lines, brings=True):
    """What is known after using one of some lines, set by set."""
    sets, ways, _ = shape
    old = known.get(lines[0], ways) if len(lines) == 1 else ways
    found = {}
    for line, age in known.items():
        touched = any(line % sets == other % sets for other in lines)
        found[line] = age + 1 if touched and age < old else age
    if len(lines) == 1 and (brings or lines[0] in known):
        found[lines[0]] = 0
    return {line: age for line, age in found.items() if age < ways}


def naive_after(machine, code, p, known):
    """Like `after`, for pairs of what is known of both caches."""
    row, (code_shape, data_shape, _) = code[p], machine
    if row[0] == "link":
        return {}, {}
    data = known[1]
    if row[0] in ("load", "store", "loadx", "storex"):
        first, many = (row[2], 1) if len(row) == 3 else row[3:]
        lines = sorted({a // data_shape[2] for a in range(first, first + many)})
        data = naive_use(data_shape, data, lines, row[0].startswith("load"))
    return naive_use(code_shape, known[0], [p // code_shape[2]]), data


def naive_meet(known, other):
    return {line: max(known[line], other[line]) for line in set(known) & set(other)}


def naive_known(machine, code, found, first, ends):
    """What is known at each place: all places are computed anew from those before until nothing changes."""
    every = naive.all_places(code, found, first, ends)
    edges = [(place, naive.next_place(found, place, q)) for place in every if place[0] not in ends
             for q in naive.following(code, place[0])]
    known = {place: None for place in every}
    while True:
        new = {place: None for place in every}
        new[first] = ({}, {})
        for place, there in edges:
            if known[place] is not None:
                passed = naive_after(machine, code, place[0], known[place])
                old = new[there]
                new[there] = passed if old is None else tuple(map(naive_meet, old, passed))
        if new == known:
            return known
        known = new


def random_processor(chance, **costs):
    shapes = [(chance.randrange(1, 4), chance.randrange(1, 5), chance.choice([1, 2, 4, 8])) for _ in range(2)]
    return processor(*shapes, **costs)


class KnownFromTest(unittest.TestCase):
    def known(self, code, machine=((1, 2, 1), (1, 2, 1)), place=(0, ()), ends=()):
        return known_from(processor(*machine), code, loops(code, 0), place, list(ends))

    def test_document_example(self):
        code = [("load", 1, 5), ("store", 1, 6), ("done",)]
        self.assertEqual(known_from(((1, 2, 2), (1, 1, 1), Costs()), code, [], (0, ()), []),
                         {(0, ()): ({}, {}), (1, ()): ({0: 0}, {5: 0}), (2, ()): ({0: 0}, {})})

    def test_one_place(self):
        self.assertEqual(self.known([DONE]), {(0, ()): ({}, {})})

    def test_conditions(self):
        code = [("load", 1, 5), ("jzero", 1, 4), ("load", 1, 6), ("load", 1, 5), ("load", 1, 6), DONE]
        found = self.known(code, ((1, 4, 1), (1, 2, 1)))
        self.assertEqual(found[4, ()], ({0: 3, 1: 2}, {5: 0}))
        self.assertEqual(found[5, ()], ({1: 3, 4: 0}, {5: 1, 6: 0}))

    def test_loop(self):
        code = [("count", 0, 3), ("load", 1, 5), ("again", 0, 1), DONE]
        found = self.known(code, ((1, 4, 1), (1, 1, 1)))
        self.assertEqual(found[1, (0,)], ({0: 0}, {}))
        self.assertEqual(found[2, (0,)], ({0: 1, 1: 0}, {5: 0}))
        self.assertEqual(found[1, (1,)], ({0: 2, 1: 1, 2: 0}, {5: 0}))
        self.assertEqual(found[2, (1,)], ({0: 2, 1: 0, 2: 1}, {5: 0}))
        self.assertEqual(found[3, ()], ({0: 2, 1: 1, 2: 0}, {5: 0}))

    def test_what_a_loop_removes(self):
        code = [("load", 1, 5), ("count", 0, 3), ("load", 1, 6), ("load", 1, 7), ("again", 0, 2), ("load", 1, 5), DONE]
        found = self.known(code, ((1, 4, 16), (1, 3, 1)))
        self.assertEqual(found[5, ()][1], {5: 2, 6: 1, 7: 0})
        found = self.known(code, ((1, 4, 16), (1, 2, 1)))
        self.assertEqual(found[3, (0,)][1], {5: 1, 6: 0})
        self.assertEqual(found[5, ()][1], {6: 1, 7: 0})

    def test_link(self):
        code = [("load", 1, 5), ("link", 3), DONE, ("back",)]
        self.assertEqual(self.known(code), {(0, ()): ({}, {}), (1, ()): ({0: 0}, {5: 0}), (2, ()): ({}, {})})

    def test_first_place_in_the_middle(self):
        code = [("load", 1, 5), ("load", 1, 6), DONE]
        self.assertEqual(self.known(code, place=(1, ())), {(1, ()): ({}, {}), (2, ()): ({1: 0}, {6: 0})})

    def test_edge_back_to_the_first_place(self):
        code = [("count", 0, 3), ("load", 1, 5), ("again", 0, 1), DONE]
        found = self.known(code, ((1, 4, 1), (1, 1, 1)), (1, (1,)))
        self.assertEqual(found[1, (1,)], ({}, {}))
        self.assertEqual(found[2, (1,)], ({1: 0}, {5: 0}))
        self.assertEqual(sorted(found), [(1, (1,)), (2, (1,)), (3, ())])

    def test_ends(self):
        code = [("count", 0, 3), ("load", 1, 5), ("again", 0, 1), DONE]
        self.assertEqual(sorted(self.known(code, ends=[2])), [(0, ()), (1, (0,)), (2, (0,))])
        self.assertEqual(self.known(code, ends=[0]), {(0, ()): ({}, {})})
        self.assertEqual(self.known(code, ends=[3, 9]), self.known(code))
        self.assertEqual(sorted(self.known(code, ends=[1, 3])), [(0, ()), (1, (0,))])

    def test_end_that_another_way_passes_by(self):
        code = [("jzero", 1, 2), ("load", 1, 5), ("load", 1, 6), DONE]
        found = self.known(code, ((1, 4, 1), (1, 4, 1)), ends=[1])
        self.assertEqual(found[2, ()], ({0: 0}, {}))
        self.assertEqual(found[1, ()], ({0: 0}, {}))

    def test_random_code(self):
        for seed in range(250):
            code, start = random_code(seed)
            chance = random.Random(seed)
            found = loops(code, start)
            machine = random_processor(chance)
            for place in [(start, ()), chance.choice(places(code, start))]:
                ends = chance.sample(range(start, len(code)), min(len(code) - start, chance.randrange(3)))
                self.assertEqual(known_from(machine, code, found, place, ends),
                                 naive_known(machine, code, found, place, ends), seed)

    def test_arguments_stay(self):
        code = [("count", 0, 3), ("load", 1, 5), ("again", 0, 1), DONE]
        check_pure(self, known_from, processor((1, 2, 1), (1, 2, 1)), code, loops(code, 0), (0, ()), [2])
        check_pure(self, known_from, processor((1, 2, 1), (1, 2, 1)), code, loops(code, 0), (0, ()), [])


class CachesTest(unittest.TestCase):
    def test_known_lines_are_cached(self):
        """Point 17.8: in runs from any contents of the caches, known lines are there with at most their ages."""
        checked = 0
        for seed in range(150):
            code, start = random_code(seed, 3)
            chance = random.Random(seed)
            machine = random_processor(chance)
            found = loops(code, start)
            known = known_from(machine, code, found, (start, ()), [])
            board = new_board(machine[:2], [[chance.randrange(3) for _ in range(9)] for _ in range(8)], chance)
            board.data[:40] = [chance.randrange(3) for _ in range(40)]
            place = None

            def look(at, depth):
                nonlocal place, checked
                if depth:
                    return
                place = follow(found, place, at) if place else (start, ())
                for cache, ages in zip((board.code_cache, board.data_cache), known[place]):
                    for line, age in ages.items():
                        self.assertLessEqual(cache.rows[line % cache.sets].index(line), age)
                        checked += 1

            Run(machine[2], code, start, board, look)
        self.assertGreater(checked, 3000)
