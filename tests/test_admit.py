"""Points 23.1 to 23.4, with 14.1, 19.4 and 20.1 to 20.3: the slack, the start addresses and the verdict."""

import random
import unittest

from deadbeat.admit import admission, slack_of, starts_of
from deadbeat.cpu import Costs
from deadbeat.errors import BoundError, CodeError
from deadbeat.images import build, entry
from deadbeat.orders import ceilings, numbers
from deadbeat.response import response_time
from deadbeat.sections import records, routine_bound, section_bounds
from tests.programs import ValidMaker, interrupt, num, operation, put, shared, system, task
from tests.purity import check_pure
from tests.test_must import random_processor
from tests.test_reload import plain_charge, plain_section, plain_sets
from tests.test_response import plain_demand

SMALL = (1, 1, 1)
FLAT = Costs(fetch_miss=1, load_miss=1)


def plain_verdict(program, processor):
    """The verdict in the words of point 23."""
    image = build(program, processor[0][2], processor[1][2])
    code, costs = image[1], processor[2]
    parts = program[4] + program[5]
    routines = [("task", t) for t in range(len(program[4]))] + [("interrupt", i) for i in range(len(program[5]))]
    starts = {number: entry(image, routine) for number, routine in zip(numbers(program), routines)}
    table = records(processor, code, list(starts.values()))
    need = {number: routine_bound(table[start]) for number, start in starts.items()}
    every = {number: part[2] for number, part in zip(numbers(program), parts)}
    limits, slack, rows = ceilings(program), slack_of(costs), []
    for number, part in zip(numbers(program), parts):
        delays = [0]
        for lower in [other for other in starts if other < number]:
            for e, o, bound in section_bounds(table[starts[lower]]):
                if limits[o] >= number:
                    sets = [set(), set()]
                    for other in [other for other in starts if other > limits[o]]:
                        for row, new in zip(sets, plain_sets(processor, code, starts[other])):
                            row.update(new)
                    delays.append(bound + plain_section(processor, code, table, starts[lower], e, *sets))
        above = [(every[j], need[j] + 2 * costs.switch + plain_charge(processor, code, table, starts, limits, j, number))
                 for j in range(number + 1, 11) if j in starts]
        given = (need[number] + costs.switch, slack + max(delays), above)
        response = response_time(part[3], *given, [other[2] for other in parts], costs.release, slack)
        rows.append((number, *given, response))
    return ("verdict", all(row[4] is not None for row in rows), slack, rows)


class SlackTest(unittest.TestCase):
    def test_default_costs(self):
        self.assertEqual(slack_of(Costs()), 22)

    def test_each_term(self):
        low = dict(fetch_hit=1, fetch_miss=1, plain=1, mul=1, div=1, load_hit=1, load_miss=1, store=1, taken=1, count=1,
                   port=1, release=0, switch=0, enter=0, leave=0, finish=0)
        self.assertEqual(slack_of(Costs(**low)), 3)
        for changed, slack in (({"release": 50}, 50), ({"switch": 50}, 50), ({"fetch_miss": 20}, 22), ({"taken": 50}, 52),
                               ({"enter": 50}, 52), ({"leave": 50}, 52), ({"finish": 50}, 52), ({"mul": 50}, 51),
                               ({"div": 50}, 51), ({"load_miss": 50}, 51), ({"store": 50}, 51), ({"count": 50}, 52),
                               ({"port": 50}, 51), ({"plain": 50}, 52), ({"count": 50, "taken": 9}, 60),
                               ({"plain": 50, "taken": 9}, 60), ({"plain": 9, "enter": 9}, 19), ({"plain": 9, "leave": 9}, 19),
                               ({"plain": 9, "finish": 9}, 19), ({"plain": 9, "finish": 9, "fetch_miss": 9}, 27)):
            self.assertEqual(slack_of(Costs(**{**low, **changed})), slack, changed)

    def test_hits_do_not_count(self):
        self.assertEqual(slack_of(Costs(fetch_hit=5, fetch_miss=5, load_hit=40, load_miss=64)), 69)

    def test_release_and_switch_at_their_limits(self):
        self.assertEqual([slack_of(Costs(release=cost)) for cost in (21, 22, 23, 64)], [22, 22, 23, 64])
        self.assertEqual([slack_of(Costs(switch=cost)) for cost in (21, 22, 23, 64)], [22, 22, 23, 64])

    def test_arguments_stay(self):
        check_pure(self, slack_of, Costs())


def call(thing, *given):
    return ("call", None, thing, "f", list(given))


BOX = shared("box", [("v", 0)], [operation("f", [], [], [put("v", num(1))])])


class StartsTest(unittest.TestCase):
    def test_numbers_and_entries(self):
        program = system(objects=[BOX], tasks=[task("a", [put("v", num(7))], [("v", 0)], 900, 500), task("b", [], [], 900, 700),
                                               task("c", [], [], 900, 500)],
                         interrupts=[interrupt("i", "box", "f"), interrupt("j", "box", "f")])
        image = build(program, 4, 4)
        self.assertEqual(starts_of(program, image), {
            3: entry(image, ("task", 0)), 1: entry(image, ("task", 1)), 2: entry(image, ("task", 2)),
            9: entry(image, ("interrupt", 0)), 10: entry(image, ("interrupt", 1))})

    def test_nothing(self):
        self.assertEqual(starts_of(system(), build(system(), 4, 4)), {})
        program = system(objects=[BOX])
        self.assertEqual(starts_of(program, build(program, 4, 4)), {})

    def test_interrupts_alone(self):
        program = system(objects=[BOX], interrupts=[interrupt("i", "box", "f")])
        image = build(program, 1, 1)
        self.assertEqual(starts_of(program, image), {9: entry(image, ("interrupt", 0))})

    def test_arguments_stay(self):
        program = system(tasks=[task("a")])
        check_pure(self, starts_of, program, build(program, 4, 4))


class VerdictTest(unittest.TestCase):
    def check(self, program, processor):
        found = admission(program, processor)
        self.assertEqual(found, plain_verdict(program, processor))
        return found

    def test_document_example(self):
        job = ("task", "job", 60, 50, [], [("write", "o", ("num", 7))])
        flat = Costs(fetch_miss=1, load_miss=1, release=0, switch=0, finish=0)
        self.assertEqual(admission(("system", "s", [("out", "o")], [], [job], []), (SMALL, SMALL, flat)),
                         ("verdict", True, 9, [(1, 9, 9, [], 18)]))

    def test_nothing_to_run(self):
        for program in (system(), system(objects=[BOX], ports=[("in", "p")])):
            self.assertEqual(self.check(program, (SMALL, SMALL, Costs())), ("verdict", True, 22, []))

    def test_two_tasks_by_hand(self):
        """An empty body takes a fetch, a plain instruction and the act of finishing: 1 + 1 + 8."""
        program = system(tasks=[task("a", [], [], 100, 90), task("b", [], [], 200, 150)])
        slack = 1 + 1 + 8
        costs = Costs(fetch_miss=1, load_miss=1, div=1, port=1, release=6, switch=4)
        found = admission(program, (SMALL, SMALL, costs))
        # Number 2: 14 + 10 + 6 for each of two releases; number 1 also 10 + 2 * 4 for number 2.
        self.assertEqual(found, ("verdict", True, slack, [(2, 14, slack, [], 36), (1, 14, slack, [(100, 18)], 54)]))
        self.check(program, (SMALL, SMALL, costs))

    def test_response_at_the_limit(self):
        for within, response in ((54, 54), (53, None)):
            program = system(tasks=[task("a", [], [], 100, 50), task("b", [], [], 200, within)])
            found = self.check(program, (SMALL, SMALL, Costs(fetch_miss=1, load_miss=1, div=1, port=1, switch=4)))
            self.assertEqual([row[4] for row in found[3]], [36, response])
            self.assertEqual(found[1], response is not None)

    def test_a_row_without_a_response(self):
        """The others keep theirs, also those of lower numbers."""
        program = system(tasks=[task("a", [], [], 30, 30), task("b", [], [], 900, 800)])
        found = self.check(program, (SMALL, SMALL, Costs(fetch_miss=1, load_miss=1, div=1, port=1, switch=4)))
        self.assertEqual((found[1], [row[4] is None for row in found[3]]), (False, [True, False]))

    def test_interrupts_alone(self):
        program = system(objects=[BOX], interrupts=[interrupt("i", "box", "f"), interrupt("j", "box", "f", [], 500, 400)])
        found = self.check(program, ((4, 2, 4), (4, 2, 4), Costs()))
        self.assertEqual([row[0] for row in found[3]], [9, 10])
        self.assertEqual([[every for every, _ in row[3]] for row in found[3]], [[500], []])

    def test_order_of_the_rows_and_pairs(self):
        tasks = [task(f"t{t}", [], [], 4000 + t, within) for t, within in enumerate([3000, 3500, 3200, 3000, 3100, 3600, 3300, 3400])]
        program = system(objects=[BOX], tasks=tasks,
                         interrupts=[interrupt("i", "box", "f", [], 5000, 5000), interrupt("j", "box", "f", [], 6000, 6000)])
        found = self.check(program, ((4, 2, 4), (4, 2, 4), Costs()))
        self.assertEqual([row[0] for row in found[3]], [8, 2, 5, 7, 6, 1, 4, 3, 9, 10])
        self.assertEqual([every for every, _ in found[3][1][3]], [4007, 4006, 4002, 4004, 4003, 4000, 5000, 6000])
        self.assertEqual(found[3][9][3], [])

    def test_every_release_counts(self):
        """Also those of lower numbers and the own ones."""
        one = admission(system(tasks=[task("a", [], [], 900, 700)]), (SMALL, SMALL, FLAT))
        two = admission(system(tasks=[task("a", [], [], 900, 700), task("b", [], [], 900, 800)]), (SMALL, SMALL, FLAT))
        self.assertEqual(two[3][0][4], one[3][0][4] + FLAT.release)

    def delays(self, within, objects, bodies, interrupts=()):
        """What the numbers are blocked for beyond the slack, by numbers."""
        tasks = [task(f"t{t}", body, [("v", 0)], 90000, most) for t, (body, most) in enumerate(zip(bodies, within))]
        program = system(objects=objects, tasks=tasks, interrupts=list(interrupts))
        found = self.check(program, (SMALL, SMALL, FLAT))
        return {row[0]: row[2] - found[2] for row in found[3]}

    def test_sections_below(self):
        """The section of `f`: link 3, store 5, body 7, load 2, back 3, leave 7."""
        section = 3 + 5 + (2 + 5) + 2 + 3 + 7
        self.assertEqual(self.delays([800, 700], [BOX], [[call("box")], []]), {1: 0, 2: 0})
        self.assertEqual(self.delays([800, 700], [BOX], [[call("box")], [call("box")]]), {1: 0, 2: section})
        self.assertEqual(self.delays([800, 700], [BOX], [[], [call("box")]]), {1: 0, 2: 0})
        self.assertEqual(self.delays([800, 700, 600], [BOX], [[call("box")], [], [call("box")]]), {1: 0, 2: section, 3: section})
        self.assertEqual(self.delays([800, 700, 600], [BOX], [[call("box")], [call("box")], []]), {1: 0, 2: section, 3: 0})

    def test_ceiling_of_an_interrupt(self):
        found = self.delays([800, 700], [BOX], [[call("box")], []], [interrupt("i", "box", "f")])
        self.assertEqual(found, {1: 0, 2: found[9], 9: found[9]})
        self.assertGreater(found[9], 0)

    def test_the_greatest_section_below_counts(self):
        """The sections of the number itself and of greater ones do not."""
        other = shared("other", [("v", 0)], [operation("f", [], [], [put("v", num(1))] * 4)])
        most = self.delays([800, 700], [BOX, other], [[call("other")], [call("other")]])[2]
        least = self.delays([800, 700], [BOX, other], [[call("box")], [call("box")]])[2]
        self.assertGreater(most, least)
        self.assertEqual(self.delays([800, 700], [BOX, other], [[call("box"), call("other")], [call("other"), call("box")]])[2], most)
        self.assertEqual(self.delays([800, 700], [BOX, other], [[call("other"), call("box")], [call("box")]])[2], least)
        self.assertEqual(self.delays([800, 700], [BOX, other], [[call("box")], [call("other"), call("box")]])[2], least)
        rows = self.delays([800, 700, 600], [BOX, other], [[call("box")], [call("other")], [call("other"), call("box")]])
        self.assertEqual(rows, {1: 0, 2: least, 3: most})

    def test_objects_that_others_reach(self):
        """A section of an object that calls a more urgent one has the ceiling of that one."""
        outer = shared("outer", [], [operation("f", [], [], [call("box")])])
        found = self.delays([800, 700], [outer, BOX], [[call("outer")], [call("box")]])
        self.assertGreater(found[2], self.delays([800, 700], [outer, BOX], [[call("box")], [call("box")]])[2])

    def test_reload_of_a_section(self):
        """Numbers above the ceiling can preempt the section and use its sets."""
        low, high = task("low", [call("box")], [], 90000, 80000), task("high", [call("box")], [], 90000, 70000)
        top = task("top", [], [], 90000, 60000)
        processor = ((1, 4, 16), (1, 1, 1), Costs())
        with_top = self.check(system(objects=[BOX], tasks=[low, high, top]), processor)
        without = self.check(system(objects=[BOX], tasks=[low, high]), processor)
        self.assertGreater(with_top[3][1][2], without[3][1][2])

    def test_caches_count(self):
        program = system(tasks=[task("a", [("loop", "i", 9, None, [])])])
        bounds = [admission(program, ((sets, 4, 16), (sets, 4, 16), Costs()))[3][0][1] for sets in (1, 64)]
        slow = admission(program, (SMALL, SMALL, Costs()))[3][0][1]
        self.assertEqual(bounds[0], bounds[1])
        self.assertLess(bounds[0], slow)

    def test_random_programs(self):
        admitted = set()
        for seed in range(80):
            maker = ValidMaker(seed)
            if seed % 2:
                scale = 10 ** (seed % 5 + 2)
                maker.times = lambda: (scale, maker.random.randrange(scale // 4, scale + 1))
            admitted.add(self.check(maker.program(), random_processor(random.Random(seed)))[1])
        self.assertEqual(admitted, {False, True})

    def test_responses_meet_their_demand(self):
        for seed in range(30):
            program = ValidMaker(seed).program()
            costs = random_processor(random.Random(seed))
            _, _, slack, rows = admission(program, costs)
            releases = [part[2] for part in program[4] + program[5]]
            for (_, own, blocked, above, response), part in zip(rows, program[4] + program[5]):
                if response is not None:
                    self.assertLessEqual(response, part[3])
                    self.assertEqual(plain_demand(response, own, blocked, above, releases, costs[2].release, slack), response)

    def test_arguments_stay(self):
        program = system(objects=[BOX], tasks=[task("a", [call("box")]), task("b", [call("box")], [], 900, 700)])
        processor = ((4, 2, 4), (4, 2, 4), Costs())
        check_pure(self, admission, program, processor, shared=[processor])


class FaultTest(unittest.TestCase):
    def deep(self, body):
        """A task with loops one deeper than its bound can be computed for."""
        for name in "abcde":
            body = [("loop", name, 2, None, body)]
        return task("t", body, [("v", 0)])

    def long(self, many):
        return task("u", [put("v", num(1))] * many, [("v", 0)])

    def test_too_much_code(self):
        self.assertEqual(admission(system(tasks=[self.long(2047)]), (SMALL, SMALL, Costs()))[3][0][0], 1)
        with self.assertRaises(CodeError) as caught:
            admission(system(tasks=[self.long(2048)]), (SMALL, SMALL, Costs()))
        self.assertEqual(caught.exception.at, 4098)

    def test_no_bound(self):
        with self.assertRaises(BoundError):
            admission(system(tasks=[self.deep([])]), (SMALL, SMALL, Costs()))

    def test_errors_of_the_image_come_first(self):
        with self.assertRaises(CodeError):
            admission(system(tasks=[self.deep([]), self.long(2048)]), (SMALL, SMALL, Costs()))
        with self.assertRaises(BoundError):
            admission(system(tasks=[self.deep([]), self.long(1000)]), (SMALL, SMALL, Costs()))

    def test_cells_do_not_fit(self):
        program = system(tasks=[task("t", [], [(f"v{n}", 64) for n in range(257)])])
        with self.assertRaises(CodeError):
            admission(program, (SMALL, SMALL, Costs()))


if __name__ == "__main__":
    unittest.main()
