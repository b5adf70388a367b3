"""Point 10.1: the costs and their ranges. Point 10.3: what instructions cost."""

import inspect
import unittest

from deadbeat.cpu import Costs, instruction_cost
from deadbeat.errors import PlanError
from tests.purity import check_pure

DEFAULTS = {
    "fetch_hit": 1, "fetch_miss": 11, "plain": 1, "mul": 3, "div": 8, "load_hit": 1, "load_miss": 11, "store": 4,
    "taken": 1, "count": 2, "port": 4, "release": 6, "switch": 12, "enter": 5, "leave": 5, "finish": 8,
}
KERNEL = ["release", "switch", "enter", "leave", "finish"]
PROCESSOR = [name for name in DEFAULTS if name not in KERNEL]
# All costs differ, so that none can be taken for another one.
DIFFERENT = {name: 2 + 3 * number for number, name in enumerate(DEFAULTS)}
INSTRUCTIONS = {
    ("set", 1, 5): "plain", ("high", 1, 5): "plain", ("load", 1, 5): "load", ("store", 1, 5): "store",
    ("loadx", 1, 2, 5, 3): "load", ("storex", 1, 2, 5, 3): "store", ("jump", 5): "plain", ("jzero", 1, 5): "plain",
    ("count", 1, 5): "count", ("again", 1, 5): "count", ("link", 5): "plain", ("back",): "plain", ("done",): "plain",
    ("enter", 1): "plain", ("leave", 1): "plain", ("in", 1, 5): "port", ("out", 1, 5): "port",
    ("calc", "add", 1, 2, 3): "plain", ("calc", "sub", 1, 2, 3): "plain", ("calc", "mul", 1, 2, 3): "mul",
    ("calc", "div", 1, 2, 3): "div", ("calc", "mod", 1, 2, 3): "div", ("calc", "and", 1, 2, 3): "plain",
    ("calc", "or", 1, 2, 3): "plain", ("calc", "xor", 1, 2, 3): "plain", ("calc", "shl", 1, 2, 3): "plain",
    ("calc", "shr", 1, 2, 3): "plain", ("calc", "ult", 1, 2, 3): "plain", ("calc", "ule", 1, 2, 3): "plain",
    ("calc", "slt", 1, 2, 3): "plain", ("calc", "sle", 1, 2, 3): "plain", ("calc", "eq", 1, 2, 3): "plain",
    ("calc", "ne", 1, 2, 3): "plain", ("calc", "nor", 1, 2, 3): "plain",
}


def fields(costs):
    return {name: getattr(costs, name) for name in DEFAULTS}


class CostsTest(unittest.TestCase):
    def bad(self, **given):
        with self.assertRaises(PlanError) as caught:
            Costs(**given)
        self.assertIs(type(caught.exception.at), int)

    def pairs(self, name, value):
        """Costs in which one has a value and its hit or miss the same, so that no miss is below its hit."""
        given = {name: value}
        for hit, miss in (("fetch_hit", "fetch_miss"), ("load_hit", "load_miss")):
            if name in (hit, miss):
                given = {hit: value, miss: value}
        return given

    def test_defaults(self):
        self.assertEqual(fields(Costs()), DEFAULTS)

    def test_arguments(self):
        parameters = inspect.signature(Costs).parameters.values()
        self.assertEqual({row.name: row.default for row in parameters}, DEFAULTS)
        self.assertEqual({row.kind for row in parameters}, {inspect.Parameter.KEYWORD_ONLY})

    def test_each_cost_has_its_field(self):
        self.assertEqual(fields(Costs(**DIFFERENT)), DIFFERENT)
        for name in DEFAULTS:
            given = self.pairs(name, 13)
            self.assertEqual(fields(Costs(**given)), {**DEFAULTS, **given})

    def test_ranges_of_the_processor(self):
        for name in PROCESSOR:
            for value in (1, 2, 63, 64):
                self.assertEqual(getattr(Costs(**self.pairs(name, value)), name), value)
            for value in (0, -1, 65, 1000):
                self.bad(**self.pairs(name, value))

    def test_ranges_of_the_kernel(self):
        for name in KERNEL:
            for value in (0, 1, 63, 64):
                self.assertEqual(getattr(Costs(**{name: value}), name), value)
            for value in (-1, -64, 65, 1000):
                self.bad(**{name: value})

    def test_out_of_range_alone(self):
        """A miss that is too great, or a hit that is too low, breaks no other condition."""
        for given in ({"fetch_miss": 65}, {"load_miss": 65}, {"fetch_hit": 0}, {"load_hit": 0}, {"fetch_hit": -1}):
            self.bad(**given)

    def test_misses(self):
        for hit, miss in (("fetch_hit", "fetch_miss"), ("load_hit", "load_miss")):
            for given in ({hit: 12}, {miss: 0}, {hit: 5, miss: 4}, {hit: 64, miss: 63}, {hit: 64}, {hit: 2, miss: 1}):
                self.bad(**given)
            for given in ({hit: 11}, {miss: 1}, {hit: 5, miss: 5}, {hit: 64, miss: 64}, {hit: 63, miss: 64}, {hit: 10}):
                self.assertEqual(fields(Costs(**given)), {**DEFAULTS, **given})

    def test_misses_are_independent(self):
        self.assertEqual(Costs(fetch_hit=11, load_miss=1).fetch_hit, 11)
        self.bad(fetch_hit=12, load_miss=64)
        self.bad(load_hit=12, fetch_miss=64)

    def test_several_bad(self):
        self.bad(plain=0, release=65)
        self.bad(fetch_hit=70, load_hit=80)


class InstructionCostTest(unittest.TestCase):
    def expected(self, costs, instruction, fetch_hit, load_hit, taken):
        kind, name = INSTRUCTIONS[instruction], instruction[0]
        cost = costs["fetch_hit" if fetch_hit else "fetch_miss"]
        if kind == "load":
            kind = "load_hit" if load_hit else "load_miss"
        cost += costs[kind]
        if name in ("jump", "link", "back") or name in ("jzero", "again") and taken:
            cost += costs["taken"]
        return cost

    def test_each_instruction(self):
        for given in (DEFAULTS, DIFFERENT):
            costs = Costs(**given)
            for instruction in INSTRUCTIONS:
                for fetch_hit in (True, False):
                    for load_hit in (True, False):
                        for taken in (True, False):
                            cost = instruction_cost(costs, instruction, fetch_hit=fetch_hit, load_hit=load_hit, taken=taken)
                            self.assertEqual(cost, self.expected(given, instruction, fetch_hit, load_hit, taken), instruction)

    def test_defaults(self):
        costs = Costs(**DIFFERENT)
        for instruction in INSTRUCTIONS:
            for fetch_hit in (True, False):
                cost = instruction_cost(costs, instruction, fetch_hit=fetch_hit)
                self.assertEqual(cost, self.expected(DIFFERENT, instruction, fetch_hit, True, False), instruction)

    def test_examples(self):
        costs = Costs()
        self.assertEqual(instruction_cost(costs, ("set", 1, 7), fetch_hit=False), 12)
        self.assertEqual(instruction_cost(costs, ("store", 1, 5), fetch_hit=True), 5)
        self.assertEqual(instruction_cost(costs, ("load", 2, 5), fetch_hit=True, load_hit=False), 12)
        self.assertEqual(instruction_cost(costs, ("jump", 0), fetch_hit=True), 3)
        self.assertEqual(instruction_cost(costs, ("again", 0, 0), fetch_hit=True, taken=True), 4)
        self.assertEqual(instruction_cost(costs, ("again", 0, 0), fetch_hit=True), 3)

    def test_the_kernel_is_not_included(self):
        low, high = Costs(enter=0, leave=0, finish=0), Costs(enter=64, leave=64, finish=64)
        for instruction in (("enter", 1), ("leave", 1), ("done",)):
            for costs in (low, high):
                self.assertEqual(instruction_cost(costs, instruction, fetch_hit=True), 2)

    def test_arguments_stay(self):
        costs = Costs(**DIFFERENT)
        for instruction in INSTRUCTIONS:
            check_pure(self, lambda *given: instruction_cost(*given, fetch_hit=True), costs, instruction)
