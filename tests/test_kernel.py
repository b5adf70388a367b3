"""Points 28.1 to 28.5, with 0.13, 0.14 and 10.2: the kernel's acts and events."""

import random
import unittest

from deadbeat.caches import Cache
from deadbeat.cpu import Board, Costs
from deadbeat.kernel import Kernel, Setup
from deadbeat.releases import Timeline, accepted
from deadbeat.stack import Stack
from deadbeat.system import load
from deadbeat.waiting import Waiting
from tests.purity import frozen
from tests.programs import ValidMaker
from tests.routines import broken, random_code
from tests.second_kernel import SecondKernel
from tests.test_must import random_processor

DONE, BACK, NOP = ("done",), ("back",), ("set", 0, 0)
# A plain instruction takes 2 cycles, "out" 5, "jump" 3. The acts have costs of their own that can be told apart.
FLAT = Costs(fetch_miss=1, load_miss=1, release=10, switch=20, enter=3, leave=4, finish=8)
FREE = Costs(fetch_miss=1, load_miss=1, release=0, switch=0, enter=0, leave=0, finish=0)


def kernel_of(bodies, releases, ceilings=(), costs=FLAT, watches=None, inputs=(), rest=()):
    """A kernel for bodies by their numbers, which lie one behind the other, with more code behind them."""
    code, starts = [], {}
    for number, body in bodies.items():
        starts[number] = len(code)
        code += body
    setup = Setup(code=code + list(rest), starts=starts, ceilings=list(ceilings), watches=watches or {}, costs=costs)
    board = Board(Cache(1, 1, 1), Cache(1, 1, 1), list(inputs))
    return Kernel(setup, board, Timeline(list(releases.items())))


def events(kernel):
    """All events up to the stop."""
    while kernel.advance():
        pass
    return kernel.events


class SetupTest(unittest.TestCase):
    def test_fields(self):
        costs = Costs()
        given = dict(code=[DONE], starts={1: 0}, ceilings=[3], watches={0: ([1], [2, 3])}, costs=costs)
        setup = Setup(**given)
        for name, value in given.items():
            self.assertEqual(getattr(setup, name), value)
        self.assertIs(setup.costs, costs)

    def test_arguments_stay(self):
        given = dict(code=[DONE], starts={1: 0}, ceilings=[3], watches={0: ([1], [2, 3])}, costs=Costs())
        before = frozen(given)
        setup = Setup(**given)
        self.assertEqual(frozen(given), before)
        given["code"].clear(), given["starts"].clear(), given["ceilings"].clear()
        given["watches"][0][0].clear(), given["watches"][0][1].clear(), given["watches"].clear()
        self.assertEqual([setup.code, setup.starts, setup.ceilings, setup.watches], [[DONE], {1: 0}, [3], {0: ([1], [2, 3])}])


class KernelTest(unittest.TestCase):
    def test_document_example(self):
        setup = Setup(code=[("out", 0, 0), ("done",)], starts={3: 0}, ceilings=[], watches={}, costs=Costs())
        board = Board(Cache(1, 1, 2), Cache(1, 1, 2), [])
        kernel = Kernel(setup, board, Timeline([(3, [5])]))
        self.assertEqual([kernel.advance() for _ in range(7)], [True, True, True, True, True, True, False])
        self.assertEqual(kernel.events[:3], [("idle", 5), ("release", 11, 3, 5), ("begin", 11, 3, 5)])
        self.assertEqual(kernel.events[3:], [("switch", 23, 3), ("out", 38, 3, 0, 0), ("done", 48, 3, 5, 25)])

    def test_fields_at_the_start(self):
        setup = Setup(code=[DONE], starts={1: 0}, ceilings=[], watches={}, costs=FLAT)
        board = Board(Cache(1, 1, 1), Cache(1, 1, 1), [])
        kernel = Kernel(setup, board, Timeline([]))
        self.assertEqual([kernel.now, kernel.last, kernel.events, kernel.broken], [0, 0, [], False])
        self.assertIs(kernel.board, board)
        self.assertIsInstance(kernel.stack, Stack)
        self.assertIsInstance(kernel.waiting, Waiting)
        self.assertEqual([kernel.stack.levels(), kernel.waiting.highest()], [[], 0])

    def test_nothing_to_do(self):
        kernel = kernel_of({1: [DONE]}, {})
        self.assertEqual([kernel.advance(), kernel.advance()], [False, False])
        self.assertEqual([kernel.now, kernel.events, kernel.broken], [0, [], False])

    def test_fields_in_between(self):
        kernel = kernel_of({2: [NOP, DONE]}, {2: [0, 1]})
        seen = []
        while kernel.advance():
            seen.append((kernel.now, kernel.last, kernel.stack.top(), kernel.waiting.times(2)))
        self.assertEqual(seen, [(10, 0, 0, [0]), (20, 0, 0, [0, 1]), (20, 0, 2, [1]), (40, 2, 2, [1]), (42, 2, 2, [1]),
                                (52, 2, 0, [1]), (52, 2, 2, []), (54, 2, 2, []), (64, 2, 0, [])])

    def test_release_at_the_current_time(self):
        """It is taken ahead of everything else, also if the current time came to it by an act."""
        found = events(kernel_of({1: [NOP, DONE], 2: [DONE]}, {1: [0], 2: [32]}))
        self.assertEqual(found[:5], [("release", 10, 1, 0), ("begin", 10, 1, 0), ("switch", 30, 1), ("release", 42, 2, 32),
                                     ("begin", 42, 2, 32)])
        found = events(kernel_of({1: [NOP, DONE], 2: [DONE]}, {1: [0], 2: [33]}))
        self.assertEqual(found[3], ("done", 42, 1, 0, 12))

    def test_several_releases_at_once(self):
        found = events(kernel_of({1: [DONE], 5: [DONE], 9: [DONE]}, {9: [4], 1: [4, 5], 5: [4]}))
        self.assertEqual(found[:6], [("idle", 4), ("release", 14, 1, 4), ("release", 24, 5, 4), ("release", 34, 9, 4),
                                     ("release", 44, 1, 5), ("begin", 44, 9, 4)])

    def test_releases_in_the_order_of_the_times(self):
        found = events(kernel_of({1: [DONE], 5: [DONE]}, {1: [3, 9], 5: [1, 4]}))
        self.assertEqual([event[2:] for event in found if event[0] == "release"], [(5, 1), (1, 3), (5, 4), (1, 9)])

    def test_release_during_an_act(self):
        """A release that comes while another one is taken follows at once."""
        found = events(kernel_of({1: [DONE], 2: [DONE]}, {1: [0], 2: [10]}))
        self.assertEqual(found[:3], [("release", 10, 1, 0), ("release", 20, 2, 10), ("begin", 20, 2, 10)])
        found = events(kernel_of({1: [DONE], 2: [DONE]}, {1: [0], 2: [11]}))
        self.assertEqual(found[:4], [("release", 10, 1, 0), ("begin", 10, 1, 0), ("switch", 30, 1), ("release", 40, 2, 11)])

    def test_greatest_ready_number_begins(self):
        found = events(kernel_of({1: [DONE], 3: [DONE], 2: [DONE]}, {1: [0], 3: [0], 2: [0]}))
        self.assertEqual([event[2] for event in found if event[0] == "begin"], [3, 2, 1])

    def test_preemption_on_a_release(self):
        found = events(kernel_of({1: [NOP, NOP, DONE], 2: [DONE]}, {1: [0], 2: [31]}))
        self.assertEqual(found, [
            ("release", 10, 1, 0), ("begin", 10, 1, 0), ("switch", 30, 1), ("release", 42, 2, 31), ("begin", 42, 2, 31),
            ("switch", 62, 2), ("done", 72, 2, 31, 10), ("switch", 92, 1), ("done", 104, 1, 0, 14)])

    def test_a_lower_number_waits(self):
        found = events(kernel_of({2: [NOP, DONE], 1: [DONE]}, {2: [0], 1: [1]}))
        self.assertEqual([event[0] for event in found], ["release", "release", "begin", "switch", "done", "begin", "switch", "done"])

    def test_number_equal_to_the_level(self):
        """It waits until the object is left, and begins right behind the leave."""
        body = [("enter", 0), NOP, ("leave", 0), NOP, DONE]
        for number, behind in ((2, "leave"), (3, "leave"), (4, "enter"), (5, "enter")):
            found = events(kernel_of({1: body, number: [DONE]}, {1: [0], number: [32]}, [3]))
            acts = [(event[0], event[2]) for event in found if event[0] not in ("release", "switch")]
            self.assertEqual(acts[acts.index(("begin", number)) - 1], (behind, 1), number)

    def test_preemption_on_a_leave(self):
        body = [("enter", 0), ("leave", 0), NOP, DONE]
        found = events(kernel_of({1: body, 2: [DONE]}, {1: [0], 2: [30]}, [2]))
        self.assertEqual(found, [
            ("release", 10, 1, 0), ("begin", 10, 1, 0), ("switch", 30, 1), ("release", 40, 2, 30), ("begin", 40, 2, 30),
            ("switch", 60, 2), ("done", 70, 2, 30, 10), ("switch", 90, 1), ("enter", 95, 1, 0), ("leave", 101, 1, 0, 6),
            ("done", 113, 1, 0, 23)])
        found = events(kernel_of({1: body, 2: [DONE]}, {1: [0], 2: [31]}, [2]))
        self.assertEqual(found[3:8], [("enter", 35, 1, 0), ("release", 45, 2, 31), ("leave", 51, 1, 0, 6), ("begin", 51, 2, 31),
                                      ("switch", 71, 2)])

    def test_a_job_that_waits_for_the_previous_one(self):
        found = events(kernel_of({1: [NOP, DONE], 2: [DONE]}, {1: [0, 5], 2: []}))
        self.assertEqual(found, [
            ("release", 10, 1, 0), ("release", 20, 1, 5), ("begin", 20, 1, 0), ("switch", 40, 1), ("done", 52, 1, 0, 12),
            ("begin", 52, 1, 5), ("done", 64, 1, 5, 12)])

    def test_a_preempted_job_and_the_next_one_of_its_number(self):
        """The second job of number 1 does not begin while the first one is on the stack below another one."""
        found = events(kernel_of({1: [NOP, DONE], 2: [NOP, DONE]}, {1: [0, 50], 2: [31]}))
        begins = [event[2:] for event in found if event[0] in ("begin", "done")]
        self.assertEqual(begins, [(1, 0), (2, 31), (2, 31, 12), (1, 0, 12), (1, 50), (1, 50, 12)])

    def test_switches(self):
        """None if the same number ran last, also after idle times."""
        found = events(kernel_of({1: [DONE]}, {1: [0, 100, 500]}))
        self.assertEqual([event for event in found if event[0] == "switch"], [("switch", 30, 1)])
        found = events(kernel_of({1: [DONE], 2: [DONE]}, {1: [0, 300], 2: [100]}))
        self.assertEqual([event[2] for event in found if event[0] == "switch"], [1, 2, 1])

    def test_no_switch_to_a_job_that_is_preempted_at_once(self):
        """Number 1 has begun, but a release comes before the switch is done with."""
        found = events(kernel_of({1: [DONE], 2: [DONE]}, {1: [0], 2: [10]}))
        self.assertEqual([event[2] for event in found if event[0] == "switch"], [2, 1])
        found = events(kernel_of({1: [DONE], 2: [DONE]}, {1: [0], 2: [11]}))
        self.assertEqual([event[2] for event in found if event[0] == "switch"], [1, 2, 1])

    def test_idle(self):
        found = events(kernel_of({1: [DONE]}, {1: [0, 41, 1000]}))
        self.assertEqual(found, [
            ("release", 10, 1, 0), ("begin", 10, 1, 0), ("switch", 30, 1), ("done", 40, 1, 0, 10), ("idle", 41),
            ("release", 51, 1, 41), ("begin", 51, 1, 41), ("done", 61, 1, 41, 10), ("idle", 1000), ("release", 1010, 1, 1000),
            ("begin", 1010, 1, 1000), ("done", 1020, 1, 1000, 10)])

    def test_no_idle_time_for_a_release_at_the_current_time(self):
        found = events(kernel_of({1: [DONE]}, {1: [0, 40]}))
        self.assertEqual(found[4], ("release", 50, 1, 40))

    def test_registers_and_own_times_across_preemptions(self):
        one = [("set", 1, 7), NOP, NOP, NOP, ("out", 1, 0), ("out", 2, 0), DONE]
        two = [("out", 1, 1), ("set", 1, 9), ("set", 2, 5), DONE]
        found = events(kernel_of({1: one, 2: two}, {1: [0], 2: [33]}))
        self.assertEqual([event for event in found if event[0] in ("out", "done")], [
            ("out", 69, 2, 1, 0), ("done", 83, 2, 33, 19), ("out", 112, 1, 0, 7), ("out", 117, 1, 0, 0), ("done", 127, 1, 0, 28)])

    def test_registers_of_each_job_are_0(self):
        kernel = kernel_of({1: [("out", 1, 0), ("out", 8, 0), ("set", 1, 3), ("set", 8, 4), DONE]}, {1: [0, 1]})
        self.assertEqual([event[4] for event in events(kernel) if event[0] == "out"], [0, 0, 0, 0])

    def test_data_counters_and_ports_are_shared(self):
        one = [("set", 1, 7), ("store", 1, 5), ("count", 3, 2), ("in", 2, 0), DONE]
        two = [("load", 1, 5), ("out", 1, 0), ("again", 3, 4), ("out", 0, 1), ("in", 2, 0), ("out", 2, 0), DONE]
        kernel = kernel_of({2: one, 1: [row if row[0] != "again" else ("again", 3, 9) for row in two]}, {2: [0], 1: [1]}, inputs=[[40, 50]])
        events(kernel)
        self.assertEqual(kernel.board.outputs[:2], [[7, 50], []])

    def test_enter_and_leave(self):
        body = [("enter", 1), NOP, ("enter", 0), ("leave", 0), ("leave", 1), ("enter", 1), ("leave", 1), DONE]
        found = events(kernel_of({1: body}, {1: [0]}, [1, 1]))
        self.assertEqual(found[3:], [
            ("enter", 35, 1, 1), ("enter", 42, 1, 0), ("leave", 48, 1, 0, 6), ("leave", 54, 1, 1, 19), ("enter", 59, 1, 1),
            ("leave", 65, 1, 1, 6), ("done", 75, 1, 0, 45)])

    def test_own_time_of_a_section_with_a_preemption(self):
        body = [("enter", 0), NOP, NOP, ("leave", 0), DONE]
        found = events(kernel_of({1: body, 2: [DONE]}, {1: [0], 2: [36]}, [1]))
        self.assertIn(("begin", 47, 2, 36), found)
        self.assertEqual(found[-2:], [("leave", 105, 1, 0, 10), ("done", 115, 1, 0, 25)])

    def test_link_and_back(self):
        """The words are those behind the instruction; addresses without a pair have none."""
        code = [("set", 1, 9), ("store", 1, 4), ("link", 6), ("link", 9), DONE, NOP, ("set", 2, 3), ("store", 2, 5), BACK, BACK]
        found = events(kernel_of({1: code}, {1: [0]}, watches={6: ([4, 5], [5, 4, 6])}))
        self.assertEqual([event[:1] + event[2:] for event in found[3:-1]], [
            ("link", 1, 6, [9, 0]), ("back", 1, 6, [3, 9, 0]), ("link", 1, 9, []), ("back", 1, 9, [])])

    def test_times_of_link_and_back(self):
        found = events(kernel_of({1: [("link", 2), DONE, BACK]}, {1: [0]}))
        self.assertEqual(found[3:], [("link", 33, 1, 2, []), ("back", 36, 1, 2, []), ("done", 46, 1, 0, 16)])

    def test_nested_calls(self):
        code = [("link", 2), DONE, ("store", 8, 9), ("link", 6), ("load", 8, 9), BACK, BACK]
        found = events(kernel_of({1: code}, {1: [0]}, watches={2: ([9], [9]), 6: ([9], [8, 9])}))
        self.assertEqual([event[:1] + event[3:] for event in found[3:-1]], [
            ("link", 2, [0]), ("link", 6, [1]), ("back", 6, [0, 1]), ("back", 2, [1])])

    def test_back_without_a_link(self):
        """Register 8 is 0 at the start."""
        found = events(kernel_of({1: [("jzero", 8, 2), DONE, ("set", 8, 1), BACK]}, {1: [0]}, watches={0: ([1], [1])}))
        self.assertEqual(found[3:], [("back", 38, 1, None, []), ("done", 48, 1, 0, 18)])

    def test_more_backs_than_links(self):
        code = [("link", 4), ("set", 8, 3), BACK, DONE, BACK]
        found = events(kernel_of({1: code}, {1: [0]}, watches={4: ([], [0])}))
        self.assertEqual([event[3:] for event in found if event[0] == "back"], [(4, [0]), (None, [])])

    def test_calls_of_several_jobs(self):
        """Each job has its own calls."""
        code = {1: [("link", 6), DONE], 2: [("link", 8), DONE, NOP, NOP]}
        found = events(kernel_of(code, {1: [0], 2: [31]}, rest=[NOP, BACK, BACK]))
        self.assertEqual([(event[0], event[2], event[3]) for event in found if event[0] in ("link", "back")], [
            ("link", 1, 6), ("link", 2, 8), ("back", 2, 8), ("back", 1, 6)])

    def test_in_and_out(self):
        code = [("in", 3, 2), ("in", 3, 2), ("in", 0, 1), ("out", 3, 7), ("out", 0, 7), ("in", 4, 1), DONE]
        kernel = kernel_of({1: code}, {1: [0]}, inputs=[[], [5, 6], [8]])
        found = events(kernel)
        self.assertEqual([event[:1] + event[3:] for event in found[3:-1]], [
            ("in", 2, 8), ("in", 2, 0), ("in", 1, 0), ("out", 7, 0), ("out", 7, 0), ("in", 1, 6)])
        self.assertEqual(kernel.board.outputs[7], [0, 0])

    def test_items_of_each_event(self):
        code = [("enter", 0), ("link", 6), ("leave", 0), ("in", 1, 0), ("out", 1, 0), DONE, BACK]
        found = events(kernel_of({1: code}, {1: [2]}, [1]))
        lengths = {"idle": 2, "release": 4, "begin": 4, "switch": 3, "enter": 4, "link": 5, "back": 5, "leave": 5, "in": 5, "out": 5, "done": 5}
        self.assertEqual({event[0]: len(event) for event in found}, lengths)
        self.assertTrue(all(type(event) is tuple for event in found))

    def test_costs_of_0(self):
        found = events(kernel_of({1: [("enter", 0), ("leave", 0), DONE], 2: [DONE]}, {1: [0], 2: [0]}, [1], FREE))
        self.assertEqual(found, [
            ("release", 0, 1, 0), ("release", 0, 2, 0), ("begin", 0, 2, 0), ("switch", 0, 2), ("done", 2, 2, 0, 2), ("begin", 2, 1, 0),
            ("switch", 2, 1), ("enter", 4, 1, 0), ("leave", 6, 1, 0, 2), ("done", 8, 1, 0, 6)])

    def test_events_that_the_caller_changes(self):
        """The words of an event are a list of its own."""
        kernel = kernel_of({1: [("link", 3), ("link", 3), DONE, BACK]}, {1: [0]}, watches={3: ([5], [5])})
        while len(kernel.events) < 4:
            kernel.advance()
        kernel.events[3][4].append(99)
        self.assertEqual([event[4] for event in events(kernel)[4:7]], [[0], [0], [0]])
        self.assertEqual(kernel.setup.watches, {3: ([5], [5])})


class BrokenTest(unittest.TestCase):
    def check(self, bodies, expected, releases=None, ceilings=(5, 5), costs=FLAT):
        """The events behind the first switch, and that nothing happens afterwards."""
        kernel = kernel_of(bodies, releases or {1: [0, 1000]}, ceilings, costs)
        self.assertEqual(events(kernel)[3:], expected)
        self.assertTrue(kernel.broken)
        before = frozen(kernel)
        self.assertEqual([kernel.advance(), kernel.advance()], [False, False])
        self.assertEqual(frozen(kernel), before)

    def test_no_instruction(self):
        self.check({1: [NOP]}, [("broken", 32, 1)])
        self.check({1: [("jump", 4000)]}, [("broken", 33, 1)])
        self.check({1: []}, [("broken", 30, 1)])
        self.check({1: [("set", 8, -1), BACK]}, [("back", 35, 1, None, []), ("broken", 35, 1)])

    def test_enter_of_an_object_that_does_not_exist(self):
        self.check({1: [("enter", 2), DONE]}, [("broken", 32, 1)])
        self.check({1: [("enter", 0), DONE]}, [("broken", 32, 1)], None, [])

    def test_enter_of_the_same_object(self):
        self.check({1: [("enter", 0), ("enter", 0), DONE]}, [("enter", 35, 1, 0), ("broken", 37, 1)])

    def test_enter_of_an_object_of_a_job_below(self):
        """The ceiling is too low here."""
        self.check({1: [("enter", 0), NOP, ("leave", 0), DONE], 2: [("enter", 0), DONE]}, [
            ("enter", 35, 1, 0), ("release", 45, 2, 32), ("begin", 45, 2, 32), ("switch", 65, 2), ("broken", 67, 2)],
            {1: [0], 2: [32]}, [1])

    def test_leave(self):
        self.check({1: [("leave", 0), DONE]}, [("broken", 32, 1)])
        self.check({1: [("enter", 1), ("leave", 0), DONE]}, [("enter", 35, 1, 1), ("broken", 37, 1)])
        self.check({1: [("enter", 0), ("enter", 1), ("leave", 0)]}, [("enter", 35, 1, 0), ("enter", 40, 1, 1), ("broken", 42, 1)])
        self.check({1: [("enter", 0), ("leave", 0), ("leave", 0)]}, [("enter", 35, 1, 0), ("leave", 41, 1, 0, 6), ("broken", 43, 1)])

    def test_done_in_an_object(self):
        self.check({1: [("enter", 0), DONE]}, [("enter", 35, 1, 0), ("broken", 37, 1)])

    def test_the_cost_of_the_instruction_counts(self):
        costs = Costs(fetch_hit=2, fetch_miss=7, plain=3, release=10, switch=20)
        self.check({1: [("leave", 0)]}, [("broken", 40, 1)], None, [5], costs)

    def test_not_broken(self):
        kernel = kernel_of({1: [DONE]}, {1: [0]})
        events(kernel)
        self.assertFalse(kernel.broken)


class SecondKernelTest(unittest.TestCase):
    def check(self, setup, processor, inputs, releases, chance, most):
        caches = []
        for shape in processor[:2]:
            cache = Cache(*shape)
            cache.fill([chance.sample([number + cache.sets * k for k in range(9)], chance.randrange(cache.ways + 1))
                        for number in range(cache.sets)])
            caches.append(cache)
        board = Board(*caches, inputs)
        kernel = Kernel(setup, board, Timeline([(number, times) for number, times in releases.items()]))
        other = SecondKernel(code=setup.code, starts=setup.starts, ceilings=setup.ceilings, watches=setup.watches, costs=setup.costs,
                             caches=[(shape, cache.rows) for shape, cache in zip(processor, caches)], inputs=inputs, releases=releases)
        for _ in range(most):
            goes_on = other.advance()
            self.assertEqual(kernel.advance(), goes_on)
            if not goes_on:
                break
        self.assertEqual(kernel.events, other.events)
        self.assertEqual([kernel.now, kernel.last, kernel.broken], [other.now, other.last, other.broken])
        self.assertEqual([kernel.board.data, kernel.board.counters, kernel.board.outputs],
                         [other.machine.data, other.machine.counters, other.machine.outputs])
        self.assertEqual([board.code_cache.rows, board.data_cache.rows], [other.machine.code_lines.rows(), other.machine.data_lines.rows()])
        return [event[0] for event in kernel.events]

    def test_random_programs(self):
        seen = set()
        for seed in range(80):
            chance = random.Random(seed)
            program = ValidMaker(seed).program()
            processor = random_processor(chance, release=chance.randrange(9), switch=chance.randrange(9))
            system = load(program, processor)
            releases = {number: accepted([chance.randrange(3000) for _ in range(5)], chance.randrange(1, 900)) for number in system.every}
            inputs = [[chance.randrange(9) for _ in range(5)] for _ in range(8)]
            seen.update(self.check(system.setup, processor, inputs, releases, chance, 2500))
        self.assertEqual(len(seen), 11)

    def test_random_code(self):
        """Also code that breaks; bodies that start anywhere."""
        ends, names = {True: 0, False: 0}, set()
        for seed in range(400):
            chance = random.Random(seed)
            code, start = random_code(seed)
            for _ in range(chance.randrange(4)):
                code = broken(code, chance)
            starts = {number: chance.choice([start, start, chance.randrange(len(code))]) for number in (1, 4, 10)}
            ceilings = [chance.choice([4, 10, 10, 10]) for _ in range(chance.choice([3, 4, 4, 4]))]
            processor = random_processor(chance)
            watches = {row[1]: ([1, 2], [3]) for row in code if row[0] == "link" and chance.random() < 0.8}
            setup = Setup(code=code, starts=starts, ceilings=ceilings, watches=watches, costs=processor[2])
            releases = {number: accepted([chance.randrange(900) for _ in range(4)], 100) for number in starts}
            found = self.check(setup, processor, [[chance.randrange(3) for _ in range(9)] for _ in range(3)], releases, chance, 600)
            ends["broken" in found] += 1
            names.update(found)
        self.assertGreater(min(ends.values()), 60)
        self.assertEqual(len(names), 12)


if __name__ == "__main__":
    unittest.main()
