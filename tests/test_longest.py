"""Points 18.1 to 18.5: the costs of places and edges, claims and bounds."""

import random
import unittest

from deadbeat.cpu import Costs, instruction_cost
from deadbeat.loops import loops, places
from deadbeat.longest import bound, claims, edge_cost, place_cost
from deadbeat.must import known_from
from tests import naive
from tests.paths import check_claims, check_form, greatest
from tests.purity import check_pure
from tests.routines import random_code
from tests.test_costs import DIFFERENT, INSTRUCTIONS
from tests.test_must import random_processor

DONE, NOP = ("done",), ("set", 0, 0)
SMALL = (1, 1, 1)
# Fetches and loads cost the same for a hit and a miss: 1 each.
FLAT = (SMALL, SMALL, Costs(fetch_miss=1, load_miss=1, finish=0))


class PlaceCostTest(unittest.TestCase):
    def test_each_instruction(self):
        """Whatever is known: the instruction with its hits, and the kernel act or the callee in addition."""
        costs = Costs(**DIFFERENT)
        machine = ((2, 2, 1), (1, 2, 4), costs)
        acts = {"enter": costs.enter, "leave": costs.leave, "done": costs.finish, "link": 1000}
        for row in INSTRUCTIONS:
            code = [NOP, row]
            for known_code, fetch_hit in (({}, False), ({0: 0, 2: 0}, False), ({1: 0}, True), ({1: 1, 3: 0}, True)):
                for known_data, load_hit in (({}, False), ({0: 0, 2: 1}, False), ({1: 0}, row[0] == "load" or row[3:] == (5, 3)),
                                             ({1: 1, 2: 0}, True)):
                    cost = instruction_cost(costs, row, fetch_hit=fetch_hit, load_hit=load_hit) + acts.get(row[0], 0)
                    self.assertEqual(place_cost(machine, code, 1, known_code, known_data, {5: 1000, 1: 7}), cost, row)

    def test_indexed_load(self):
        machine = (SMALL, (1, 2, 4), Costs(load_miss=20))
        for many, known, cost in ((3, {}, 31), (3, {1: 0}, 12), (4, {1: 0}, 31), (4, {2: 0}, 31), (4, {1: 0, 2: 1}, 12)):
            self.assertEqual(place_cost(machine, [("loadx", 1, 2, 5, many)], 0, {}, known, {}), cost)

    def test_taken_is_in_jumps_only(self):
        for row, cost in ((("jump", 0), 19), (("link", 0), 19), (("back",), 19), (("jzero", 1, 0), 12), (("again", 0, 0), 13)):
            self.assertEqual(place_cost((SMALL, SMALL, Costs(taken=7)), [row], 0, {}, {}, {0: 0}), cost)

    def test_callee(self):
        code = [("link", 1), ("back",), ("back",)]
        self.assertEqual(place_cost(FLAT, code, 0, {}, {}, {1: 100, 2: 50}), 103)

    def test_arguments_stay(self):
        for row in (("load", 1, 5), ("link", 0), DONE):
            check_pure(self, place_cost, FLAT, [row], 0, {0: 0}, {5: 0}, {0: 3})


class EdgeCostTest(unittest.TestCase):
    def test_edges(self):
        machine = (SMALL, SMALL, Costs(taken=9))
        for name in ("jzero", "again"):
            code = [NOP, (name, 1, 0), (name, 1, 3), (name, 1, 2), (name, 1, 9)]
            for p, q, cost in ((1, 0, 9), (1, 2, 0), (2, 3, 9), (3, 2, 9), (3, 4, 0), (4, 9, 9), (4, 5, 0)):
                self.assertEqual(edge_cost(machine, code, p, q), cost)

    def test_other_instructions(self):
        for row in INSTRUCTIONS:
            if row[0] not in ("jzero", "again"):
                self.assertEqual(edge_cost(FLAT, [row], 0, 1), 0)
        self.assertEqual(edge_cost(FLAT, [("jump", 1)], 0, 1), 0)
        self.assertEqual(edge_cost(FLAT, [("load", 1, 1)], 0, 1), 0)
        self.assertEqual(edge_cost(FLAT, [("jump", 7)], 0, 7), 0)

    def test_arguments_stay(self):
        check_pure(self, edge_cost, FLAT, [("jzero", 1, 0)], 0, 1)


class BoundTest(unittest.TestCase):
    def of(self, code, machine=FLAT, ends=(), place=(0, ()), called=None):
        """The bound of code, whose claims are checked."""
        found, called = loops(code, 0), called or {}
        rows = claims(machine, code, found, place, list(ends), called)
        check_claims(self, machine, code, found, place, ends, called, rows)
        known = known_from(machine, code, found, place, list(ends))
        self.assertEqual(bound(rows, place), greatest(machine, code, found, place, ends, called, known))
        return bound(rows, place)

    def test_document_example(self):
        processor = ((1, 1, 1), (1, 1, 1), Costs(fetch_miss=1, finish=0))
        code = [("count", 0, 3), ("out", 1, 0), ("again", 0, 1), ("done",)]
        rows = claims(processor, code, loops(code, 0), (0, ()), [], {})
        self.assertEqual(bound(rows, (0, ())), 31)

    def test_bound_looks_for_the_place(self):
        rows = [((0, ()), [], [], 31, ()), ((1, (0,)), [], [], 28, (0,)), ((1, (1,)), [], [], 1, (9,))]
        self.assertEqual([bound(rows, row[0]) for row in rows], [31, 28, 1])
        self.assertEqual(bound(rows[::-1], (1, (0,))), 28)

    def test_straight(self):
        self.assertEqual(self.of([DONE]), 2)
        self.assertEqual(self.of([NOP, ("calc", "mul", 1, 1, 1), ("load", 1, 5), ("store", 1, 5), DONE]), 2 + 4 + 2 + 5 + 2)
        self.assertEqual(self.of([DONE], (SMALL, SMALL, Costs())), 20)
        self.assertEqual(self.of([NOP] * 4 + [DONE], ((1, 1, 4), SMALL, Costs(finish=0))), 12 + 3 * 2 + 12)

    def test_acts_and_callees(self):
        machine = (SMALL, SMALL, Costs(fetch_miss=1, enter=20, leave=30, finish=40))
        code = [("enter", 0), ("link", 4), ("leave", 0), DONE, ("back",)]
        self.assertEqual(self.of(code, machine, called={4: 500}), 22 + 503 + 32 + 42)

    def test_conditions(self):
        # The way by the address costs taken, the other one the instructions.
        for extra, cost in ((0, 2 + 1 + 2), (1, 2 + 2 + 2), (2, 2 + 4 + 2)):
            self.assertEqual(self.of([("jzero", 1, 1 + extra)] + [NOP] * extra + [DONE]), cost)
        code = [("jzero", 1, 3), NOP, ("jump", 5), ("out", 1, 0), ("out", 1, 0), DONE]
        self.assertEqual(self.of(code), 3 + 10 + 2)
        code = [("jzero", 1, 3), ("out", 1, 0), ("jump", 4), NOP, DONE]
        self.assertEqual(self.of(code), 2 + 5 + 3 + 2)

    def test_two_equal_successors(self):
        machine = (SMALL, SMALL, Costs(fetch_miss=1, finish=0, taken=9))
        self.assertEqual(self.of([("jzero", 1, 1), DONE], machine), 2 + 9 + 2)
        self.assertEqual(self.of([("again", 1, 1), DONE], machine), 3 + 9 + 2)

    def test_loops(self):
        for many in (1, 2, 3, 64):
            self.assertEqual(self.of([("count", 0, many), NOP, ("again", 0, 1), DONE]), 3 + many * 5 + (many - 1) + 2)
            self.assertEqual(self.of([("count", 0, many), ("again", 0, 1), DONE]), 3 + many * 3 + (many - 1) + 2)

    def test_nested_loops(self):
        for outer in (1, 2, 64):
            for inner in (1, 2, 5):
                code = [("count", 0, outer), ("count", 1, inner), NOP, ("again", 1, 2), ("again", 0, 1), DONE]
                cost = 3 + outer * (3 + inner * 5 + inner - 1 + 3) + outer - 1 + 2
                self.assertEqual(self.of(code), cost)

    def test_four_in_one_another(self):
        rounds = [2, 3, 1, 2]
        code = [("count", number, many) for number, many in enumerate(rounds)] + [NOP]
        code += [("again", number, number + 1) for number in (3, 2, 1, 0)] + [DONE]
        cost = 2
        for many in rounds[::-1]:
            cost = 3 + many * (cost + 3) + many - 1
        self.assertEqual(self.of(code), cost + 2)

    def test_loop_that_is_left_early(self):
        # Leaving in the last round is worth more than leaving at the tail, as the code behind is longer there.
        code = [("count", 0, 4), ("jzero", 1, 4), ("again", 0, 1), ("jump", 6), ("out", 1, 0), ("out", 1, 0), DONE]
        self.assertEqual(self.of(code), 3 + 3 * (2 + 3 + 1) + (2 + 1) + 10 + 2)
        # Here the tail is worth more.
        code = [("count", 0, 4), ("jzero", 1, 5), ("again", 0, 1), ("out", 1, 0), ("out", 1, 0), DONE]
        self.assertEqual(self.of(code), 3 + 4 * (2 + 3) + 3 + 10 + 2)

    def test_way_out_of_the_first_round_only(self):
        code = [("count", 0, 1), ("jzero", 1, 4), ("again", 0, 1), ("jump", 6), ("out", 1, 0), ("out", 1, 0), DONE]
        self.assertEqual(self.of(code), 3 + (2 + 1) + 10 + 2)

    def test_way_out_of_two_loops(self):
        code = [("count", 0, 3), ("count", 1, 4), ("jzero", 1, 7), ("again", 1, 2), ("again", 0, 1), NOP, ("jump", 8),
                ("out", 1, 0), DONE]
        inner = 3 + 4 * (2 + 3) + 3
        self.assertEqual(self.of(code), max(3 + 3 * (inner + 3) + 2 + 2 + 3 + 2,
                                            3 + 2 * (inner + 3 + 1) + 3 + 3 * 6 + 3 + 5 + 2))

    def test_first_round_that_costs_more(self):
        machine = ((1, 4, 1), (1, 1, 1), Costs(finish=0))
        for many in (1, 2, 7):
            code = [("count", 0, many), ("load", 1, 5), ("again", 0, 1), DONE]
            first, later = 22 + 13, 2 + 3
            self.assertEqual(self.of(code, machine), 13 + first + (many - 1) * (1 + later) + 12)

    def test_first_round_that_costs_less(self):
        machine = ((1, 1, 16), (1, 1, 1), Costs(finish=0, fetch_miss=1))
        code = [("load", 1, 5), ("count", 0, 3), ("load", 1, 5), ("load", 1, 6), ("again", 0, 2), DONE]
        self.assertEqual(self.of(code, machine), 12 + 3 + (2 + 12 + 3) + 2 * (1 + 12 + 12 + 3) + 2)

    def test_cost_of_going_back_that_exceeds_what_follows(self):
        machine = (SMALL, SMALL, Costs(fetch_miss=1, finish=0, taken=64))
        for many in (1, 2, 3, 64):
            self.assertEqual(self.of([("count", 0, many), ("again", 0, 1), DONE], machine), 3 + 3 * many + 64 * (many - 1) + 2)

    def test_ends(self):
        code = [NOP, ("out", 1, 0), ("out", 1, 0), DONE]
        self.assertEqual([self.of(code, ends=[p]) for p in range(4)], [2, 7, 12, 14])
        self.assertEqual(self.of(code, ends=[2, 1]), 7)
        self.assertEqual(self.of(code, ends=[99]), 14)
        self.assertEqual(self.of(code, place=(1, ()), ends=[2]), 10)
        code = [("jzero", 1, 3), NOP, NOP, ("out", 1, 0), DONE]
        self.assertEqual([self.of(code, ends=[p]) for p in range(5)], [2, 10, 10, 11, 13])

    def test_ends_in_loops(self):
        code = [("count", 0, 5), NOP, ("again", 0, 1), DONE]
        self.assertEqual([self.of(code, ends=[p]) for p in range(4)], [3, 5, 8, 34])
        code = [("count", 0, 5), ("jzero", 1, 3), ("out", 1, 0), ("again", 0, 1), DONE]
        # A path ends in the last round at the latest.
        self.assertEqual(self.of(code, ends=[2]), 3 + 5 * 6 + 4 + 2)

    def test_place_in_a_loop(self):
        code = [("count", 0, 5), NOP, ("out", 1, 0), ("again", 0, 1), DONE]
        for turn in (0, 1):
            self.assertEqual(self.of(code, place=(2, (turn,)), ends=[3]), 8)
            self.assertEqual(self.of(code, place=(2, (turn,)), ends=[2]), 5)
        code = [("count", 0, 5), NOP, ("jzero", 1, 5), ("jzero", 2, 6), ("again", 0, 1), ("out", 1, 0), DONE]
        for turn in (0, 1):
            self.assertEqual(self.of(code, place=(2, (turn,)), ends=[4]), max(2 + 1 + 5 + 2, 2 + 2 + 3))


class ClaimsTest(unittest.TestCase):
    def test_form(self):
        code = [("count", 0, 3), ("load", 1, 5), ("load", 1, 3), ("again", 0, 1), DONE]
        machine = ((2, 4, 2), (1, 2, 1), Costs())
        rows = claims(machine, code, loops(code, 0), (0, ()), [], {})
        self.assertEqual([row[0] for row in rows], places(code, 0))
        check_form(self, machine, rows)
        known = {row[0]: row[1:3] for row in rows}
        self.assertEqual(known[0, ()], ([], []))
        self.assertEqual(known[2, (0,)], ([(0, 0)], [(5, 0)]))
        self.assertEqual(known[1, (1,)], ([(0, 0), (1, 0)], [(3, 0), (5, 1)]))
        self.assertEqual({row[0]: len(row[4]) for row in rows}, {place: len(place[1]) for place in known})

    def test_places_behind_ends_have_no_claim(self):
        code = [("count", 0, 3), NOP, ("again", 0, 1), DONE]
        self.assertEqual([row[0] for row in claims(FLAT, code, loops(code, 0), (0, ()), [2], {})], [(0, ()), (1, (0,)), (2, (0,))])

    def test_random_code(self):
        """The claims are right, and the bound is the cost of the longest path, also with ends and from the middle."""
        for seed in range(500):
            chance = random.Random(seed)
            code, start = random_code(seed)
            found = loops(code, start)
            hit = chance.choice([1, 3])
            machine = random_processor(chance, fetch_hit=hit, fetch_miss=hit + chance.choice([0, 1, 10]),
                                       load_miss=chance.choice([1, 7]), taken=chance.choice([1, 1, 64]), finish=chance.choice([0, 8]))
            called = {row[1]: chance.randrange(200) for row in code if row[0] == "link"}
            place, ends = (start, ()), chance.sample(range(start, len(code)), min(len(code) - start, seed % 3))
            if seed % 5 == 0:
                other = chance.choice(places(code, start))
                reached = [p for p, _ in naive.all_places(code, found, other, ends)]
                if not any(head in reached for head in naive.heads(found, other[0])):
                    place = other
            rows = claims(machine, code, found, place, ends, called)
            check_claims(self, machine, code, found, place, ends, called, rows)
            known = known_from(machine, code, found, place, ends)
            self.assertEqual(bound(rows, place), greatest(machine, code, found, place, ends, called, known), seed)

    def test_arguments_stay(self):
        code = [("count", 0, 3), ("load", 1, 5), ("link", 4), ("again", 0, 1), ("back",)]
        check_pure(self, claims, FLAT, code, loops(code, 0), (0, ()), [3], {4: 7})
        check_pure(self, claims, FLAT, code, loops(code, 0), (0, ()), [], {4: 7})
        rows = claims(FLAT, code, loops(code, 0), (0, ()), [], {4: 7})
        check_pure(self, bound, rows, (0, ()))
