"""Points 19.1 to 19.5: the records of routines and the bounds of sections."""

import random
import unittest

from deadbeat.cpu import Costs
from deadbeat.errors import BoundError, CodeError
from deadbeat.graphs import ending, graph
from deadbeat.images import build, entry
from deadbeat.longest import claims
from deadbeat.loops import follow, loops, places
from deadbeat.must import known_from
from deadbeat.sections import all_routines, callees, records, routine_bound, section_bounds
from tests.paths import check_claims, greatest
from tests.programs import ValidMaker
from tests.purity import check_pure
from tests.routines import random_code
from tests.runs import Run, new_board
from tests.test_must import random_processor

DONE, BACK, NOP = ("done",), ("back",), ("set", 0, 0)
SMALL = (1, 1, 1)
FLAT = (SMALL, SMALL, Costs(fetch_miss=1, load_miss=1))


class CalleesTest(unittest.TestCase):
    CODE = [("link", 5), ("jzero", 1, 3), ("link", 5), ("link", 7), DONE, ("link", 7), BACK, NOP, BACK, ("link", 5), DONE]

    def test_callees(self):
        self.assertEqual(callees(self.CODE, 0), [5, 7])
        self.assertEqual(callees(self.CODE, 5), [7])
        self.assertEqual(callees(self.CODE, 7), [])
        self.assertEqual(callees(self.CODE, 9), [5])

    def test_ascending_without_duplicates(self):
        code = [("link", 5), ("link", 4), ("link", 5), DONE, BACK, BACK]
        self.assertEqual(callees(code, 0), [4, 5])

    def test_not_reached(self):
        self.assertEqual(callees([("jump", 2), ("link", 3), DONE, BACK], 0), [])

    def test_itself(self):
        self.assertEqual(callees([("link", 0), BACK], 0), [0])

    def test_all_routines(self):
        self.assertEqual(all_routines(self.CODE, [0]), [0, 5, 7])
        self.assertEqual(all_routines(self.CODE, [9, 0, 9, 7, 0]), [0, 5, 7, 9])
        self.assertEqual(all_routines(self.CODE, [7]), [7])
        self.assertEqual(all_routines(self.CODE, []), [])

    def test_routines_that_call_themselves(self):
        self.assertEqual(all_routines([("link", 0), BACK], [0]), [0])
        self.assertEqual(all_routines([("link", 2), BACK, ("link", 0), BACK], [2]), [0, 2])

    def test_long_chains(self):
        code = []
        for number in range(1500):
            code += [("link", 2 * number + 2), BACK]
        code += [NOP, BACK]
        self.assertEqual(all_routines(code, [0]), list(range(0, 3001, 2)))

    def test_code_that_is_not_well_formed(self):
        code = [("link", 2), DONE, ("link", 4), BACK, ("leave", 0), BACK]
        self.assertEqual(callees(code, 0), [2])
        for function, start, at in ((callees, 4, 4), (all_routines, [0], 4), (all_routines, [0, 2], 4)):
            with self.assertRaises(CodeError) as caught:
                function(code, start)
            self.assertEqual(caught.exception.at, at)
        with self.assertRaises(CodeError) as caught:
            callees([("link", 9), DONE], 0)
        self.assertEqual(caught.exception.at, 0)

    def test_arguments_stay(self):
        check_pure(self, callees, self.CODE, 0)
        check_pure(self, all_routines, self.CODE, [9, 0, 9])


class RecordsTest(unittest.TestCase):
    def check(self, machine, code, starts):
        """Checks all records against the points, and returns the table."""
        table = records(machine, code, starts)
        self.assertEqual(sorted(table), all_routines(code, starts))
        called = {start: routine_bound(record) for start, record in table.items()}
        for start, record in table.items():
            self.assertEqual(len(record), 4)
            self.assertEqual(record[:2], (start, ending(code, start)))
            found = loops(code, start)
            self.check_claims(machine, code, found, (start, ()), [], called, record[2])
            self.assertEqual(routine_bound(record), record[2][0][3])
            self.check_sections(machine, code, start, found, called, record)
        return table

    def check_claims(self, machine, code, found, first, ends, called, rows):
        check_claims(self, machine, code, found, first, ends, called, rows)
        known = known_from(machine, code, found, first, ends)
        base = {row[0]: row[3] for row in rows}[first]
        self.assertEqual(base, greatest(machine, code, found, first, ends, called, known))

    def check_sections(self, machine, code, start, found, called, record):
        stacks = graph(code, start)
        self.assertEqual([e for e, _, _ in record[3]], [p for p in stacks if code[p][0] == "enter"])
        bounds = []
        for e, o, rows in record[3]:
            self.assertEqual(code[e], ("enter", o))
            ends = [p for p in stacks if code[p] == ("leave", o) and stacks[p] == stacks[e] + (o,)]
            before = [place for place in places(code, start) if place[0] == e]
            first = follow(found, before[0], e + 1)
            self.check_claims(machine, code, found, first, ends, called, rows)
            bounds.append((e, o, {row[0]: row[3] for row in rows}[first]))
            for place in before[1:]:
                other = follow(found, place, e + 1)
                base = {row[0]: row[3] for row in claims(machine, code, found, other, ends, called)}[other]
                self.assertEqual(base, bounds[-1][2])
        self.assertEqual(section_bounds(record), bounds)

    def test_document_example(self):
        costs = Costs(fetch_miss=1, enter=5, leave=5, finish=8)
        code = [("enter", 2), ("link", 4), ("leave", 2), ("done",), ("back",)]
        table = records(((1, 1, 1), (1, 1, 1), costs), code, [0])
        self.assertEqual(section_bounds(table[0]), [(0, 2, 13)])
        self.assertEqual(routine_bound(table[0]), 30)
        self.assertEqual((table[0][:2], table[4][:2]), ((0, "body"), (4, "operation")))

    def test_no_routines(self):
        self.assertEqual(records(FLAT, [], []), {})
        self.assertEqual(records(FLAT, [DONE], []), {})

    def test_several_starts(self):
        code = [DONE, NOP, DONE, ("link", 5), DONE, NOP, BACK]
        table = self.check(FLAT, code, [3, 0, 1, 3, 0])
        self.assertEqual([(start, routine_bound(table[start])) for start in sorted(table)],
                         [(0, 10), (1, 12), (3, 3 + 5 + 10), (5, 5)])
        self.assertEqual(table[0], (0, "body", [((0, ()), [], [], 10, ())], []))
        self.assertEqual(table[5][1], "operation")

    def test_start_that_is_an_operation(self):
        self.assertEqual(records(FLAT, [NOP, BACK], [0])[0][1], "operation")
        self.assertEqual(sorted(records(FLAT, [("link", 2), DONE, BACK], [2, 0])), [0, 2])

    def test_chain_of_callees(self):
        code = [("link", 2), DONE, ("link", 4), BACK, ("link", 6), BACK, NOP, BACK]
        for starts in ([0], [0, 2, 4, 6], [6, 0], [2, 0]):
            table = self.check(FLAT, code, starts)
            self.assertEqual([routine_bound(table[p]) for p in (6, 4, 2, 0)], [5, 11, 17, 30])

    def test_callee_of_two_callers(self):
        code = [("link", 3), ("link", 5), DONE, ("link", 5), BACK, NOP, BACK]
        table = self.check(FLAT, code, [0])
        self.assertEqual([routine_bound(table[p]) for p in (5, 3, 0)], [5, 3 + 5 + 3, 3 + 11 + 3 + 5 + 10])

    def test_nothing_is_known_at_the_first_place(self):
        machine = ((1, 4, 16), (1, 4, 16), Costs(finish=0, enter=0, leave=0))
        code = [("load", 1, 5), ("enter", 0), ("load", 1, 5), ("leave", 0), DONE]
        table = self.check(machine, code, [0])
        self.assertEqual(section_bounds(table[0]), [(1, 0, 22 + 2)])
        self.assertEqual(routine_bound(table[0]), 22 + 2 + 2 + 2 + 2)

    def test_sections_side_by_side_and_nested(self):
        code = [("enter", 1), NOP, ("enter", 0), NOP, NOP, ("leave", 0), ("leave", 1), ("enter", 1), ("leave", 1), DONE]
        self.assertEqual(section_bounds(self.check(FLAT, code, [0])[0]), [(0, 1, 2 + 7 + 4 + 7 + 7), (2, 0, 4 + 7), (7, 1, 7)])

    def test_section_with_several_ends(self):
        code = [("enter", 1), ("jzero", 1, 4), ("leave", 1), ("jump", 7), NOP, NOP, ("leave", 1), DONE]
        self.assertEqual(section_bounds(self.check(FLAT, code, [0])[0]), [(0, 1, 2 + 1 + 4 + 7)])

    def test_enters_that_meet(self):
        code = [("jzero", 1, 4), ("enter", 1), NOP, ("jump", 5), ("enter", 1), NOP, ("leave", 1), DONE]
        self.assertEqual(section_bounds(self.check(FLAT, code, [0])[0]), [(1, 1, 2 + 3 + 2 + 7), (4, 1, 2 + 7)])

    def test_section_in_loops(self):
        """An enter with several places: the smallest of them counts, and all lead to the same bound."""
        machine = ((1, 4, 2), (1, 2, 2), Costs())
        code = [("count", 0, 3), ("count", 1, 2), ("enter", 1), ("load", 1, 5), ("load", 1, 5), ("leave", 1), ("again", 1, 2),
                ("again", 0, 1), DONE]
        table = self.check(machine, code, [0])
        self.assertEqual([row[0] for row in table[0][3][0][2]], [(3, (0, 0)), (4, (0, 0)), (5, (0, 0))])
        self.assertEqual(section_bounds(table[0]), [(2, 1, 22 + 12 + 7)])

    def test_loop_in_a_section(self):
        code = [("enter", 1), ("count", 0, 4), NOP, ("again", 0, 2), ("leave", 1), DONE]
        self.assertEqual(section_bounds(self.check(FLAT, code, [0])[0]), [(0, 1, 3 + 4 * 5 + 3 + 7)])

    def test_section_that_leaves_a_loop(self):
        code = [("count", 0, 4), ("enter", 1), ("jzero", 1, 6), ("leave", 1), ("again", 0, 1), DONE, NOP, NOP, ("leave", 1), DONE]
        self.assertEqual(section_bounds(self.check(FLAT, code, [0])[0]), [(1, 1, 2 + 1 + 4 + 7)])

    def test_calls_in_sections(self):
        code = [("enter", 1), ("link", 5), ("link", 5), ("leave", 1), DONE, ("enter", 0), NOP, ("leave", 0), BACK]
        table = self.check(FLAT, code, [0])
        self.assertEqual(routine_bound(table[5]), 7 + 2 + 7 + 3)
        self.assertEqual(section_bounds(table[5]), [(5, 0, 9)])
        self.assertEqual(section_bounds(table[0]), [(0, 1, 2 * (3 + 19) + 7)])

    def test_claims_of_calls(self):
        """The bounds of callees count with what is known when nothing is."""
        machine = ((1, 4, 16), SMALL, Costs())
        code = [("link", 3), ("link", 3), DONE, BACK]
        table = self.check(machine, code, [0])
        self.assertEqual([routine_bound(table[p]) for p in (3, 0)], [13, 2 * (13 + 13) + 20])

    def test_random_code(self):
        for seed in range(200):
            code, start = random_code(seed)
            machine = random_processor(random.Random(seed))
            self.check(machine, code, [start])

    def test_random_programs(self):
        for seed in range(25):
            image = build(ValidMaker(seed).program(), 4, 4)
            starts = [start for routine, start, _ in image[2] if routine[0] != "operation"]
            self.check(((3, 2, 4), (3, 2, 4), Costs()), image[1], starts)

    def test_long_chains(self):
        code = [("link", 2), DONE]
        for number in range(1, 1200):
            code += [("link", 2 * number + 2), BACK]
        table = records(FLAT, code + [NOP, BACK], [0])
        self.assertEqual(routine_bound(table[0]), 3 + 1199 * 6 + 5 + 10)

    def test_arguments_stay(self):
        code = [("enter", 2), ("link", 4), ("leave", 2), ("done",), ("load", 1, 3), ("back",)]
        check_pure(self, records, FLAT, code, [0, 0])
        table = records(FLAT, code, [0])
        check_pure(self, routine_bound, table[0])
        check_pure(self, section_bounds, table[0])


class FaultTest(unittest.TestCase):
    def bad(self, kind, code, starts, *at):
        with self.assertRaises(kind) as caught:
            records(FLAT, code, starts)
        self.assertIn(caught.exception.at, at)

    def test_code_that_is_not_well_formed(self):
        self.bad(CodeError, [("leave", 0), DONE], [0], 0)
        self.bad(CodeError, [DONE, ("leave", 0), DONE], [0, 1], 1)
        self.bad(CodeError, [("link", 2), DONE, ("enter", 0), BACK], [0], 2)
        self.bad(CodeError, [("link", 2), DONE, ("link", 9), BACK], [0], 2)

    def test_loops(self):
        self.bad(BoundError, [("jzero", 1, 0), DONE], [0], 0)
        self.bad(BoundError, [("link", 2), DONE, ("again", 0, 2), BACK], [0], 2)
        self.bad(BoundError, [DONE, NOP, ("jzero", 1, 1), DONE], [0, 1], 1)

    def test_routine_that_calls_itself(self):
        self.bad(BoundError, [("link", 0), BACK], [0], 0)
        self.bad(BoundError, [("link", 2), DONE, ("link", 2), BACK], [0], 2)
        self.bad(BoundError, [("link", 2), DONE, ("jzero", 1, 4), ("link", 2), BACK], [0], 2)

    def test_routine_that_calls_itself_through_others(self):
        self.bad(BoundError, [("link", 2), DONE, ("link", 4), BACK, ("link", 2), BACK], [0], 2, 4)
        self.bad(BoundError, [("link", 4), DONE, ("link", 6), BACK, ("link", 2), BACK, ("link", 4), BACK], [0], 2, 4, 6)
        self.bad(BoundError, [("link", 2), DONE, ("link", 4), BACK, ("link", 7), ("link", 4), BACK, BACK], [0], 4)

    def test_other_callees_of_a_routine_that_calls_itself(self):
        code = [("link", 2), DONE, BACK, ("link", 2), ("link", 6), BACK, ("link", 2), ("link", 3), BACK]
        self.bad(BoundError, [("link", 3), DONE, BACK] + code[3:], [0], 3, 6)
        self.bad(BoundError, [BACK, ("link", 0), ("link", 4), DONE, ("link", 0), ("link", 4), BACK], [1], 4)
        self.bad(BoundError, code, [3, 0], 3, 6)

    def test_callee_that_is_a_body(self):
        self.bad(BoundError, [("link", 2), DONE, DONE], [0], 0, 2)
        self.bad(BoundError, [("link", 2), DONE, ("link", 4), BACK, NOP, DONE], [0], 2, 4)
        self.bad(BoundError, [("link", 2), DONE, DONE], [2, 0], 0, 2)

    def test_counter_of_a_callee(self):
        loop = lambda p: [("count", 0, 2), ("again", 0, p + 1)]
        self.bad(BoundError, [*loop(0), ("link", 4), DONE, *loop(4), BACK], [0], 0, 4)
        self.bad(BoundError, [("count", 7, 2), ("link", 3), DONE, ("count", 7, 2), BACK], [0], 0, 3)
        self.bad(BoundError, [("again", 7, 1), ("link", 3), DONE, ("count", 7, 2), BACK], [0], 0, 3)
        self.bad(BoundError, [("count", 7, 2), ("link", 3), DONE, ("again", 7, 4), BACK], [0], 0, 3)

    def test_counter_of_a_callee_through_others(self):
        self.bad(BoundError, [("count", 7, 2), ("link", 3), DONE, ("link", 5), BACK, ("count", 7, 2), BACK], [0], 0, 5)
        self.bad(BoundError, [("link", 2), DONE, ("count", 7, 2), ("link", 5), BACK, ("count", 7, 2), BACK], [0], 2, 5)

    def test_counters_of_others(self):
        """Routines that do not call one another may use the same counters, also two callees of one routine."""
        code = [("link", 3), ("link", 5), DONE, ("count", 0, 2), BACK, ("count", 0, 3), BACK]
        self.assertEqual(sorted(records(FLAT, code, [0])), [0, 3, 5])
        self.assertEqual(sorted(records(FLAT, [("count", 0, 2), DONE, ("count", 0, 2), DONE], [0, 2])), [0, 2])
        self.assertEqual(sorted(records(FLAT, [("count", 0, 2), ("count", 0, 2), DONE], [0])), [0])

    def test_counter_that_is_not_reached(self):
        code = [("count", 0, 2), ("link", 3), DONE, ("jump", 5), ("count", 0, 2), BACK]
        self.assertEqual(sorted(records(FLAT, code, [0])), [0, 3])

    def test_address_of_two_routines(self):
        self.bad(BoundError, [NOP, NOP, DONE], [0, 1], 0, 1)
        self.bad(BoundError, [NOP, DONE, ("jump", 1)], [2, 0], 0, 2)
        self.bad(BoundError, [("link", 4), ("link", 3), DONE, NOP, BACK], [0], 3, 4)

    def test_code_that_is_not_well_formed_comes_first(self):
        wrong = [("leave", 0), DONE]
        for code in ([("jzero", 1, 0), DONE], [("link", 0), BACK], [("link", 1), DONE], [NOP, NOP, DONE]):
            for starts in ([0, len(code)], [len(code), 0]):
                self.bad(CodeError, code + wrong, starts, len(code))
        self.bad(CodeError, [("jzero", 1, 0), ("link", 3), DONE, ("leave", 0), BACK], [0], 3)

    def test_all_routines_does_not_ask_for_bounds(self):
        self.assertEqual(all_routines([("jzero", 1, 0), ("link", 0), BACK], [0]), [0])


class TimesTest(unittest.TestCase):
    def run_times(self, costs, code, start, board):
        """The own time of a run, and the times of its sections of the first level as pairs of an enter and a time."""
        run = Run(costs, code, start, board)
        found, opened, sections = 0, [], []
        for at, cost, instruction, _ in run.steps:
            found += cost
            if instruction[0] == "enter":
                opened.append((at, found))
            if instruction[0] == "leave":
                e, begun = opened.pop()
                sections.append((e, found - begun))
        return found, sections

    def check_times(self, machine, code, starts, seed, runs=3):
        chance = random.Random(seed)
        table = records(machine, code, starts)
        bounds = {e: most for record in table.values() for e, _, most in section_bounds(record)}
        for start in starts:
            for _ in range(runs):
                board = new_board(machine[:2], [[chance.randrange(3) for _ in range(9)] for _ in range(8)], chance)
                board.data[:40] = [chance.randrange(3) for _ in range(40)]
                time, sections = self.run_times(machine[2], code, start, board)
                self.assertLessEqual(time, routine_bound(table[start]))
                for e, own in sections:
                    self.assertLessEqual(own, bounds[e])

    def test_random_code(self):
        """Point 19.5: no run and no section takes longer than its bound."""
        for seed in range(120):
            code, start = random_code(seed)
            self.check_times(random_processor(random.Random(seed)), code, [start], seed)

    def test_random_programs(self):
        for seed in range(60):
            chance = random.Random(seed)
            shapes = [(chance.randrange(1, 4), chance.randrange(1, 5), chance.choice([1, 2, 4, 8])) for _ in range(2)]
            program = ValidMaker(seed).program()
            image = build(program, shapes[0][2], shapes[1][2])
            starts = [entry(image, ("task", t)) for t in range(len(program[4]))]
            self.check_times((*shapes, Costs()), image[1], starts, seed, 1)

    def test_equal_for_straight_code(self):
        """Without conditions and loops, and where hits and misses cost the same, the bound is the time."""
        checked = 0
        for seed in range(400):
            code, start = random_code(seed)
            if any(row[0] in ("jzero", "again") for row in code):
                continue
            machine = random_processor(random.Random(seed), fetch_hit=3, fetch_miss=3, load_hit=2, load_miss=2)
            table = records(machine, code, [start])
            time, sections = self.run_times(machine[2], code, start, new_board(machine[:2]))
            self.assertEqual(time, routine_bound(table[start]))
            bounds = {e: most for record in table.values() for e, _, most in section_bounds(record)}
            for e, own in sections:
                self.assertEqual(own, bounds[e])
            checked += 1
        self.assertGreater(checked, 20)
