"""Points 29.1 and 29.2, with 14.1, 14.5 and 20.1: loading and running programs."""

import random
import unittest

from deadbeat.admit import starts_of
from deadbeat.caches import Cache
from deadbeat.cpu import Board, Costs
from deadbeat.errors import CodeError, PlanError
from deadbeat.images import build, watches
from deadbeat.kernel import Kernel, Setup
from deadbeat.orders import ceilings, numbers
from deadbeat.releases import Timeline, accepted
from deadbeat.system import System, load
from tests.programs import ValidMaker, cell, interrupt, num, operation, put, shared, system, task
from tests.purity import frozen
from tests.test_must import random_processor

DONE, NOP = ("done",), ("set", 0, 0)
SMALL = (1, 1, 1)
FLAT = Costs(fetch_miss=1, load_miss=1, release=10, switch=20)


def plain_system(every=None, code=None, starts=None, caches=None):
    """A system of two bodies that take 12 and 10 cycles."""
    setup = Setup(code=code or [NOP, DONE, DONE], starts=starts or {1: 0, 2: 2}, ceilings=[], watches={}, costs=FLAT)
    code_cache, data_cache = caches or (Cache(*SMALL), Cache(*SMALL))
    return System(setup=setup, every=every or {1: 50, 2: 50}, code_cache=code_cache, data_cache=data_cache)


def full_program():
    box = shared("box", [("v", 0), ("w", 3)], [operation("f", ["a"], [], [put("v", cell("a"))], cell("v")), operation("g")])
    read = ("read", cell("x"), "i")
    call = ("call", cell("x"), "box", "f", [cell("x")])
    return system(ports=[("in", "i"), ("out", "o")], objects=[box], interrupts=[interrupt("k", "box", "f", [7], 5000, 900)], tasks=[
        task("low", [read, call, ("write", "o", cell("x"))], [("x", 0)], 3000, 2500),
        task("high", [put("x", num(1))], [("x", 0)], 4000, 1000)])


class SystemTest(unittest.TestCase):
    def test_fields(self):
        system_of = plain_system()
        self.assertEqual(system_of.setup.code, [NOP, DONE, DONE])
        self.assertEqual(system_of.every, {1: 50, 2: 50})
        for cache in (system_of.code_cache, system_of.data_cache):
            self.assertEqual((cache.sets, cache.ways, cache.size, cache.rows), (1, 1, 1, [[]]))

    def test_setup(self):
        setup = Setup(code=[DONE], starts={1: 0}, ceilings=[], watches={}, costs=FLAT)
        self.assertIs(System(setup=setup, every={1: 9}, code_cache=Cache(*SMALL), data_cache=Cache(*SMALL)).setup, setup)

    def test_caches_are_duplicates(self):
        caches = (Cache(1, 2, 1), Cache(2, 1, 4))
        caches[0].read(5)
        caches[1].read(9)
        system_of = plain_system(caches=caches)
        caches[0].read(6)
        caches[1].read(0)
        self.assertEqual([system_of.code_cache.rows, system_of.data_cache.rows], [[[5]], [[2], []]])
        system_of.run({1: [0]}, [], 1000)
        self.assertEqual([system_of.code_cache.rows, system_of.data_cache.rows], [[[5]], [[2], []]])
        self.assertEqual([caches[0].rows, caches[1].rows], [[[6, 5]], [[0], []]])

    def test_arguments_stay(self):
        every = {1: 50, 2: 50}
        system_of = plain_system(every)
        releases, inputs = {1: [120, 0, 3], 2: []}, [[1, 2], []]
        before = frozen([every, releases, inputs, system_of])
        kernel = system_of.run(releases, inputs, 1000)
        self.assertEqual(frozen([every, releases, inputs, system_of]), before)
        every.clear()
        self.assertEqual(system_of.every, {1: 50, 2: 50})
        expected = list(kernel.events)
        kernel.events.clear()
        kernel.board.data[0] = 9
        self.assertEqual(system_of.run(releases, inputs, 1000).events, expected)

    def test_two_runs(self):
        """The second one begins as the first one did."""
        code = [("load", 1, 5), ("set", 2, 1), ("calc", "add", 1, 1, 2), ("store", 1, 5), ("out", 1, 0), ("in", 3, 0), ("out", 3, 0),
                ("count", 0, 2), ("again", 0, 9), DONE]
        system_of = plain_system(code=code, starts={1: 0, 2: 9})
        one, other = [system_of.run({1: [0, 60]}, [[8, 9]], 5000) for _ in range(2)]
        self.assertEqual(one.events, other.events)
        self.assertEqual(other.board.outputs[0], [1, 8, 2, 9])
        self.assertIsNot(one.board, other.board)

    def test_kernel(self):
        kernel = plain_system().run({1: [0]}, [], 1000)
        self.assertIsInstance(kernel, Kernel)
        self.assertEqual([kernel.now, kernel.last, kernel.broken], [42, 1, False])
        self.assertEqual([event[0] for event in kernel.events], ["release", "begin", "switch", "done"])

    def test_horizons(self):
        """An act begins if the time before it is less than the horizon."""
        for horizon, many in ((0, 0), (-5, 0), (1, 1), (10, 1), (11, 3), (30, 3), (31, 3), (32, 3), (33, 4), (10 ** 5000, 4)):
            kernel = plain_system().run({1: [0]}, [], horizon)
            self.assertEqual(len(kernel.events), many, horizon)
        self.assertEqual([plain_system().run({1: [0]}, [], horizon).now for horizon in (0, 1, 10, 11, 30, 31, 32, 33)],
                         [0, 10, 10, 30, 30, 32, 32, 42])

    def test_horizon_at_an_idle_time(self):
        for horizon, many in ((42, 4), (43, 5), (100, 5), (101, 6), (110, 6), (111, 7), (112, 7), (113, 8)):
            kernel = plain_system().run({1: [0, 100]}, [], horizon)
            self.assertEqual(len(kernel.events), many, horizon)

    def test_a_run_that_is_advanced_further(self):
        system_of = plain_system()
        whole = system_of.run({1: [0, 100], 2: [20]}, [], 1000)
        for horizon in range(0, 200, 7):
            kernel = system_of.run({1: [0, 100], 2: [20]}, [], horizon)
            while kernel.advance():
                pass
            self.assertEqual(kernel.events, whole.events)

    def test_releases_that_are_too_close(self):
        kernel = plain_system({1: 50, 2: 7}).run({1: [100, 49, 0, 50], 2: [0, 6, 13]}, [], 5000)
        releases = [event[2:] for event in kernel.events if event[0] == "release"]
        self.assertEqual(sorted(releases), [(1, 0), (1, 50), (1, 100), (2, 0), (2, 13)])

    def test_numbers_without_releases(self):
        for releases in ({}, {1: []}, {1: [], 2: []}):
            kernel = plain_system().run(releases, [], 5000)
            self.assertEqual([kernel.events, kernel.now], [[], 0])

    def test_inputs(self):
        system_of = plain_system(code=[("in", 1, 1), ("out", 1, 0), DONE], starts={1: 0, 2: 2})
        for inputs, word in (([], 0), ([[3]], 0), ([[3], [4, 5]], 4), ([[], [4]] + [[]] * 6, 4)):
            self.assertEqual(system_of.run({1: [0]}, inputs, 5000).board.outputs[0], [word])

    def test_contents_of_the_caches(self):
        """A run begins with the given contents."""
        caches = (Cache(4, 2, 1), Cache(*SMALL))
        setup = Setup(code=[NOP, DONE], starts={1: 0}, ceilings=[], watches={}, costs=Costs())
        times = []
        for address in (None, 0, 1):
            if address is not None:
                caches[0].read(address)
            system_of = System(setup=setup, every={1: 9}, code_cache=caches[0], data_cache=caches[1])
            times.append(system_of.run({1: [0]}, [], 5000).events[-1][4])
        self.assertEqual(times, [32, 22, 12])

    def test_broken(self):
        kernel = plain_system(code=[NOP], starts={1: 0, 2: 0}).run({1: [0, 500]}, [], 5000)
        self.assertEqual([kernel.broken, kernel.events[-1][0], kernel.now], [True, "broken", 32])

    def test_against_the_parts(self):
        for seed in range(30):
            chance = random.Random(seed)
            program, processor = ValidMaker(seed).program(), random_processor(chance)
            loaded = load(program, processor)
            releases = {number: [chance.randrange(3000) for _ in range(5)] for number in loaded.every}
            inputs = [[chance.randrange(9) for _ in range(5)] for _ in range(4)]
            horizon = chance.randrange(5000)
            rows = [(number, accepted(times, loaded.every[number])) for number, times in releases.items()]
            kernel = Kernel(loaded.setup, Board(Cache(*processor[0]), Cache(*processor[1]), inputs), Timeline(rows))
            while kernel.now < horizon and kernel.advance():
                pass
            found = loaded.run(releases, inputs, horizon)
            self.assertEqual([found.events, found.now, found.board.data], [kernel.events, kernel.now, kernel.board.data])


class LoadTest(unittest.TestCase):
    def test_document_example(self):
        job = ("task", "job", 60, 50, [], [("write", "o", ("num", 7))])
        loaded = load(("system", "s", [("out", "o")], [], [job], []), ((1, 1, 2), (1, 1, 2), Costs()))
        self.assertEqual(loaded.setup.code, [("set", 1, 7), ("out", 1, 0), ("done",)])
        kernel = loaded.run({1: [5, 20]}, [], 100)
        self.assertEqual(kernel.events[3:], [("switch", 23, 1), ("out", 40, 1, 0, 7), ("done", 60, 1, 5, 37)])
        self.assertEqual([kernel.now, kernel.board.outputs[0]], [60, [7]])

    def test_parts(self):
        for shapes in (((4, 2, 4), (2, 1, 8)), (SMALL, SMALL), ((64, 4, 16), (64, 4, 16))):
            program, costs = full_program(), Costs()
            loaded = load(program, (*shapes, costs))
            image = build(program, shapes[0][2], shapes[1][2])
            self.assertEqual(loaded.setup.code, image[1])
            self.assertEqual(loaded.setup.starts, starts_of(program, image))
            self.assertEqual(loaded.setup.ceilings, ceilings(program))
            self.assertEqual(loaded.setup.watches, watches(image))
            self.assertIs(loaded.setup.costs, costs)
            self.assertEqual(loaded.every, {1: 3000, 2: 4000, 9: 5000})
            for cache, shape in zip((loaded.code_cache, loaded.data_cache), shapes):
                self.assertEqual((cache.sets, cache.ways, cache.size), shape)
                self.assertEqual(cache.rows, [[]] * shape[0])

    def test_numbers(self):
        for seed in range(20):
            program = ValidMaker(seed).program()
            loaded = load(program, (SMALL, SMALL, Costs()))
            self.assertEqual(loaded.every, dict(zip(numbers(program), [row[2] for row in program[4] + program[5]])))
            self.assertEqual(sorted(loaded.setup.starts), sorted(loaded.every))

    def test_nothing_to_run(self):
        loaded = load(system(), (SMALL, SMALL, Costs()))
        self.assertEqual([loaded.setup.code, loaded.every, loaded.run({}, [], 50).events], [[], {}, []])

    def test_run(self):
        """What calls are given and what they leave, and the ports."""
        kernel = load(full_program(), (SMALL, SMALL, Costs())).run({1: [0, 3000], 9: [6000]}, [[40]], 50000)
        events = [event for event in kernel.events if event[0] in ("in", "link", "back", "out")]
        self.assertEqual([event[:1] + event[2:] for event in events if event[0] in ("in", "out")], [
            ("in", 1, 0, 40), ("out", 1, 0, 40), ("in", 1, 0, 0), ("out", 1, 0, 0)])
        self.assertEqual([event[4] for event in events if event[0] in ("link", "back")], [
            [40], [40, 40, 0, 0, 0], [0], [0, 0, 0, 0, 0], [7], [7, 7, 0, 0, 0]])
        self.assertEqual(kernel.board.outputs[0], [40, 0])

    def test_image_that_is_too_large(self):
        program = system(tasks=[task("u", [put("v", num(1))] * 2048, [("v", 0)])])
        with self.assertRaises(CodeError) as caught:
            load(program, (SMALL, SMALL, Costs()))
        self.assertEqual(caught.exception.at, 4098)
        self.assertEqual(len(load(system(tasks=[task("u", [put("v", num(1))] * 2047, [("v", 0)])]), (SMALL, SMALL, Costs())).setup.code), 4096)

    def test_shapes_that_do_not_exist(self):
        for shapes in (((65, 1, 1), SMALL), (SMALL, (1, 5, 1)), ((0, 1, 1), SMALL)):
            with self.assertRaises(PlanError):
                load(system(), (*shapes, Costs()))

    def test_arguments_stay(self):
        program = full_program()
        processor = ((4, 2, 4), (4, 2, 4), Costs())
        before = frozen([program, processor])
        loaded = load(program, processor)
        loaded.run({1: [0]}, [[1]], 5000)
        loaded.setup.code.clear()
        loaded.setup.watches.clear()
        loaded.setup.ceilings.clear()
        self.assertEqual(frozen([program, processor]), before)
        self.assertEqual(len(load(program, processor).setup.ceilings), 1)


if __name__ == "__main__":
    unittest.main()
