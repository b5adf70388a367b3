"""Points 21.1 to 21.5: which sets routines use, and what preemptions cost them."""

import random
import unittest

from deadbeat.admit import starts_of
from deadbeat.cpu import Costs
from deadbeat.images import build
from deadbeat.orders import ceilings
from deadbeat.reload import charge, claims_reload, routine_reload, section_reload, used_sets
from deadbeat.sections import records, routine_bound, section_bounds
from tests import naive
from tests.programs import ValidMaker
from tests.purity import check_pure
from tests.routines import random_code
from tests.runs import Run, new_board
from tests.test_must import random_processor

DONE, BACK, NOP = ("done",), ("back",), ("set", 0, 0)
# A code miss costs 10 more than a hit, a data miss 100 more.
COSTS = Costs(fetch_hit=1, fetch_miss=11, load_hit=1, load_miss=64)
LOST_CODE, LOST_DATA = 10, 63


def machine(code_shape, data_shape=(1, 1, 1), costs=COSTS):
    return (code_shape, data_shape, costs)


def lines_of(size, row):
    """The data lines that an instruction may use."""
    if row[0] in ("load", "store"):
        return {row[2] // size}
    if row[0] in ("loadx", "storex"):
        return {address // size for address in range(row[3], row[3] + row[4])}
    return set()


def with_callees(code, start):
    found, waiting = set(), [start]
    while waiting:
        start = waiting.pop()
        if start not in found:
            found.add(start)
            waiting += [code[p][1] for p in naive.stacks(code, start) if code[p][0] == "link"]
    return found


def plain_sets(processor, code, start):
    """Point 21.1 in its own words."""
    (code_many, _, code_size), (data_many, _, data_size), _ = processor
    reached = {p for at in with_callees(code, start) for p in naive.stacks(code, at)}
    lines = {line for p in reached for line in lines_of(data_size, code[p])}
    return sorted({p // code_size % code_many for p in reached}), sorted({line % data_many for line in lines})


def plain_claims(processor, rows, code_sets, data_sets):
    """Point 21.2 in its own words."""
    code_shape, data_shape, costs = processor
    values = [0]
    for _, known_code, known_data, _, _ in rows:
        code_lines = sum(line % code_shape[0] in code_sets for line, _ in known_code)
        data_lines = sum(line % data_shape[0] in data_sets for line, _ in known_data)
        values.append(code_lines * (costs.fetch_miss - costs.fetch_hit) + data_lines * (costs.load_miss - costs.load_hit))
    return max(values)


def plain_routine(processor, code, table, start, *sets):
    return max(plain_claims(processor, table[at][2], *sets) for at in with_callees(code, start))


def plain_section(processor, code, table, start, at, *sets):
    """Point 21.3 in its own words. The claims of a section stand for the places in it."""
    rows = next(rows for e, _, rows in table[start][3] if e == at)
    called = {code[row[0][0]][1] for row in rows if code[row[0][0]][0] == "link"}
    return max([plain_claims(processor, rows, *sets)] + [plain_routine(processor, code, table, callee, *sets) for callee in called])


def plain_charge(processor, code, table, starts, limits, j, n):
    """Point 21.5 in its own words."""
    sets = [set(), set()]
    for number, start in starts.items():
        if number >= j:
            for row, new in zip(sets, plain_sets(processor, code, start)):
                row.update(new)
    costs = [plain_routine(processor, code, table, starts[number], *sets) for number in starts if n <= number < j]
    for number in starts:
        for e, o, _ in table[starts[number]][3]:
            if number < n <= limits[o] < j:
                costs.append(plain_section(processor, code, table, starts[number], e, *sets))
    return max(costs, default=0)


class UsedSetsTest(unittest.TestCase):
    def used(self, processor, code, start=0):
        found = used_sets(processor, code, records(processor, code, [start]), start)
        self.assertIs(type(found), tuple)
        return found

    def test_document_example(self):
        processor = ((2, 1, 1), (2, 1, 1), Costs())
        code = [("load", 1, 4), ("load", 2, 4), ("done",), ("load", 1, 6), ("done",)]
        table = records(processor, code, [0, 3])
        self.assertEqual(used_sets(processor, code, table, 3), ([0, 1], [0]))
        self.assertEqual(used_sets(processor, code, table, 0), ([0, 1], [0]))

    def test_no_data(self):
        self.assertEqual(self.used(machine((4, 1, 1)), [NOP, NOP, DONE]), ([0, 1, 2], []))

    def test_lines_and_sets_of_code(self):
        code = [NOP] * 9 + [DONE]
        self.assertEqual(self.used(machine((4, 1, 4)), code)[0], [0, 1, 2])
        self.assertEqual(self.used(machine((2, 1, 4)), code)[0], [0, 1])
        self.assertEqual(self.used(machine((4, 1, 4)), code, 8)[0], [2])
        self.assertEqual(self.used(machine((4, 1, 2)), code, 7)[0], [0, 3])

    def test_one_set_and_64_sets(self):
        code = [("load", 1, 63), ("store", 1, 64), ("load", 1, 129)] + [NOP] * 70 + [DONE]
        self.assertEqual(self.used(machine((1, 4, 1), (1, 4, 1)), code), ([0], [0]))
        self.assertEqual(self.used(machine((64, 1, 1), (64, 1, 1)), code), (list(range(64)), [0, 1, 63]))

    def test_each_access_of_data(self):
        for row, lines in ((("load", 1, 6), [3]), (("store", 1, 7), [3]), (("loadx", 1, 2, 5, 4), [2, 3, 4]),
                           (("storex", 1, 2, 6, 3), [3, 4]), (("loadx", 1, 2, 4, 2), [2]), (("loadx", 1, 2, 5, 2), [2, 3])):
            self.assertEqual(self.used(machine((8, 1, 1), (8, 1, 2)), [row, DONE]), ([0, 1], lines))

    def test_all_sets_of_a_long_array(self):
        self.assertEqual(self.used(machine((8, 1, 1), (4, 1, 2)), [("loadx", 1, 2, 6, 64), DONE])[1], [0, 1, 2, 3])
        self.assertEqual(self.used(machine((8, 1, 1), (4, 1, 2)), [("storex", 1, 2, 6, 4), DONE])[1], [0, 3])

    def test_addresses_that_are_not_reached(self):
        code = [("jump", 3), ("load", 1, 5), NOP, ("load", 1, 6), DONE, ("load", 1, 7), DONE]
        self.assertEqual(self.used(machine((8, 1, 1), (8, 1, 1)), code), ([0, 3, 4], [6]))

    def test_both_ways(self):
        code = [("jzero", 1, 3), ("load", 1, 1), ("jump", 4), ("load", 1, 2), DONE]
        self.assertEqual(self.used(machine((8, 1, 1), (8, 1, 1)), code), ([0, 1, 2, 3, 4], [1, 2]))

    def test_callees(self):
        code = [("link", 4), DONE, NOP, NOP, ("load", 1, 2), ("link", 8), BACK, NOP, ("store", 1, 5), BACK]
        processor = machine((16, 1, 1), (8, 1, 1))
        self.assertEqual(self.used(processor, code), ([0, 1, 4, 5, 6, 8, 9], [2, 5]))
        self.assertEqual(self.used(processor, code, 4), ([4, 5, 6, 8, 9], [2, 5]))
        self.assertEqual(self.used(processor, code, 8), ([8, 9], [5]))

    def test_routines_that_share_sets(self):
        code = [("load", 1, 0), DONE, ("load", 1, 2), DONE, ("load", 1, 1), DONE]
        processor = machine((2, 1, 1), (2, 1, 1))
        self.assertEqual([self.used(processor, code, start) for start in (0, 2, 4)],
                         [([0, 1], [0]), ([0, 1], [0]), ([0, 1], [1])])

    def test_random_code(self):
        for seed in range(100):
            code, start = random_code(seed)
            processor = random_processor(random.Random(seed))
            table = records(processor, code, [start])
            for at in table:
                self.assertEqual(used_sets(processor, code, table, at), plain_sets(processor, code, at))

    def test_arguments_stay(self):
        code = [("load", 1, 0), DONE]
        processor = machine((2, 1, 1))
        check_pure(self, used_sets, processor, code, records(processor, code, [0]), 0, shared=[processor])


def claim(code_lines, data_lines=()):
    return ((0, ()), [(line, 0) for line in code_lines], [(line, 0) for line in data_lines], 9, ())


class ClaimsReloadTest(unittest.TestCase):
    MACHINE = machine((4, 2, 1), (8, 2, 1))

    def test_no_claims(self):
        self.assertEqual(claims_reload(self.MACHINE, [], [0, 1, 2, 3], [0, 1]), 0)

    def test_claims_that_know_nothing(self):
        self.assertEqual(claims_reload(self.MACHINE, [claim([]), claim([])], [0, 1, 2, 3], [0, 1]), 0)

    def test_no_sets(self):
        self.assertEqual(claims_reload(self.MACHINE, [claim([0, 1], [5])], [], []), 0)

    def test_code_lines(self):
        rows = [claim([0, 4, 5, 7])]
        self.assertEqual([claims_reload(self.MACHINE, rows, sets, []) for sets in ([0], [1], [2], [3], [0, 1], [0, 1, 2, 3])],
                         [2 * LOST_CODE, LOST_CODE, 0, LOST_CODE, 3 * LOST_CODE, 4 * LOST_CODE])
        self.assertEqual(claims_reload(self.MACHINE, rows, [], [0, 1, 2, 3, 4, 5, 6, 7]), 0)

    def test_data_lines(self):
        rows = [claim([], [0, 8, 5])]
        self.assertEqual([claims_reload(self.MACHINE, rows, [], sets) for sets in ([0], [5], [4], [0, 5], list(range(8)))],
                         [2 * LOST_DATA, LOST_DATA, 0, 3 * LOST_DATA, 3 * LOST_DATA])
        self.assertEqual(claims_reload(self.MACHINE, rows, [0, 1, 2, 3], []), 0)

    def test_both_are_added(self):
        self.assertEqual(claims_reload(self.MACHINE, [claim([0, 1], [5])], [1, 2], [5]), LOST_CODE + LOST_DATA)

    def test_the_greatest_claim_counts(self):
        rows = [claim([0, 1, 2, 3]), claim([4], [5]), claim([], [])]
        self.assertEqual(claims_reload(self.MACHINE, rows, [0, 1, 2, 3], [5]), LOST_CODE + LOST_DATA)
        self.assertEqual(claims_reload(self.MACHINE, rows, [1, 2, 3], [4]), 3 * LOST_CODE)
        self.assertEqual(claims_reload(self.MACHINE, rows[::-1], [1, 2, 3], [4]), 3 * LOST_CODE)

    def test_ages_and_bases_do_not_count(self):
        row = ((3, (1,)), [(4, 1)], [], -70, (50,))
        self.assertEqual(claims_reload(self.MACHINE, [row], [0], []), LOST_CODE)

    def test_a_hit_that_costs_as_much_as_a_miss(self):
        rows = [claim([0, 1], [5, 6])]
        flat = Costs(fetch_hit=7, fetch_miss=7, load_hit=3, load_miss=3)
        self.assertEqual(claims_reload(machine((4, 2, 1), (8, 2, 1), flat), rows, [0, 1], [5, 6]), 0)
        flat = Costs(fetch_hit=7, fetch_miss=7, load_hit=3, load_miss=5)
        self.assertEqual(claims_reload(machine((4, 2, 1), (8, 2, 1), flat), rows, [0, 1], [5, 6]), 4)

    def test_one_set_and_64_sets(self):
        rows = [claim([0, 63, 64, 127], [3])]
        self.assertEqual(claims_reload(machine((1, 4, 1)), rows, [0], [0]), 4 * LOST_CODE + LOST_DATA)
        self.assertEqual(claims_reload(machine((64, 4, 1), (64, 4, 1)), rows, [63], [4]), 2 * LOST_CODE)

    def test_arguments_stay(self):
        check_pure(self, claims_reload, self.MACHINE, [claim([0, 1], [5])], [0, 1], [5])


class RoutineReloadTest(unittest.TestCase):
    # The caller knows 4 lines at most, its callee 3, and what that calls 5.
    CODE = [NOP, NOP, NOP, NOP, ("link", 6), DONE, NOP, NOP, NOP, ("link", 12), BACK, NOP, NOP, NOP, NOP, NOP, NOP, BACK]

    def reload(self, start, code_sets, data_sets=(), processor=machine((64, 1, 1)), code=None):
        code = code or self.CODE
        table = records(processor, code, [0])
        return routine_reload(processor, code, table, start, list(code_sets), list(data_sets))

    def test_own_claims(self):
        self.assertEqual(self.reload(12, range(64)), 5 * LOST_CODE)
        self.assertEqual(self.reload(12, [12, 13]), 2 * LOST_CODE)
        self.assertEqual(self.reload(12, [0, 1]), 0)
        self.assertEqual(self.reload(12, []), 0)

    def test_the_greatest_of_the_callees_counts(self):
        self.assertEqual(self.reload(0, range(64)), 5 * LOST_CODE)
        self.assertEqual(self.reload(6, range(64)), 5 * LOST_CODE)

    def test_callees_of_callees(self):
        self.assertEqual(self.reload(0, [12]), LOST_CODE)
        self.assertEqual(self.reload(0, [6, 7]), 2 * LOST_CODE)
        self.assertEqual(self.reload(0, [6, 7, 12]), 2 * LOST_CODE)
        self.assertEqual(self.reload(0, [0, 1, 2, 6, 7, 12]), 3 * LOST_CODE)

    def test_callers_do_not_count(self):
        self.assertEqual(self.reload(6, [0, 1, 2, 3]), 0)
        self.assertEqual(self.reload(12, [6, 7]), 0)

    def test_nothing_is_known_behind_a_link(self):
        code = [NOP, NOP, ("link", 7), NOP, NOP, NOP, DONE, BACK]
        self.assertEqual(self.reload(0, range(64), code=code), 3 * LOST_CODE)

    def test_data(self):
        code = [("load", 1, 5), ("load", 2, 7), ("link", 4), DONE, ("load", 1, 9), ("load", 1, 9), BACK]
        processor = machine((1, 1, 1), (16, 1, 1))
        self.assertEqual([self.reload(0, [], sets, processor, code) for sets in ([5], [7], [5, 7], [9], [5, 7, 9], [8])],
                         [LOST_DATA, LOST_DATA, 2 * LOST_DATA, LOST_DATA, 2 * LOST_DATA, 0])

    def test_arguments_stay(self):
        processor = machine((4, 1, 1))
        table = records(processor, self.CODE, [0])
        check_pure(self, routine_reload, processor, self.CODE, table, 0, [0, 1], [0])


class SectionReloadTest(unittest.TestCase):
    # Two sections of object 1, one with a call, and a section of object 2 inside the second one.
    CODE = [NOP, ("enter", 1), NOP, ("link", 14), ("leave", 1), NOP, NOP, NOP, ("enter", 1), NOP, ("enter", 2), ("leave", 2),
            ("leave", 1), DONE, NOP, NOP, NOP, BACK]
    MACHINE = machine((64, 1, 1))

    def reload(self, at, sets, code=None, start=0, data_sets=()):
        code = code or self.CODE
        table = records(self.MACHINE, code, [start])
        return section_reload(self.MACHINE, code, table, start, at, list(sets), list(data_sets))

    def test_without_a_call(self):
        """What was known before the section began does not count, and neither does what comes behind it."""
        self.assertEqual(self.reload(8, range(64)), 3 * LOST_CODE)
        self.assertEqual([self.reload(8, [p]) for p in (0, 7, 8, 9, 10, 11, 12, 13)],
                         [0, 0, 0, LOST_CODE, LOST_CODE, LOST_CODE, 0, 0])

    def test_with_a_call(self):
        self.assertEqual(self.reload(1, range(64)), 3 * LOST_CODE)
        self.assertEqual(self.reload(1, [2, 3]), LOST_CODE)
        self.assertEqual(self.reload(1, [14, 15]), 2 * LOST_CODE)
        self.assertEqual(self.reload(1, [2, 3, 14, 15]), 2 * LOST_CODE)

    def test_inner_section(self):
        self.assertEqual(self.reload(10, range(64)), 0)
        code = [("enter", 1), NOP, ("enter", 2), NOP, NOP, ("leave", 2), ("leave", 1), DONE]
        self.assertEqual(self.reload(2, range(64), code), 2 * LOST_CODE)
        self.assertEqual(self.reload(0, range(64), code), 5 * LOST_CODE)

    def test_callees_of_callees(self):
        code = [("enter", 0), ("link", 4), ("leave", 0), DONE, ("link", 6), BACK, NOP, NOP, BACK]
        self.assertEqual(self.reload(0, range(64), code), 2 * LOST_CODE)
        self.assertEqual(self.reload(0, [6], code), LOST_CODE)

    def test_calls_behind_a_condition_and_in_a_loop(self):
        code = [("enter", 0), ("jzero", 1, 6), ("count", 0, 3), ("link", 9), ("again", 0, 3), ("jump", 6), NOP, ("leave", 0),
                DONE, NOP, NOP, NOP, NOP, BACK]
        self.assertEqual(self.reload(0, [9, 10, 11, 12], code), 4 * LOST_CODE)

    def test_calls_outside_of_the_section(self):
        code = [("link", 5), ("enter", 0), ("leave", 0), ("link", 5), DONE, NOP, NOP, NOP, BACK]
        self.assertEqual(self.reload(1, range(64), code), 0)

    def test_section_with_two_ends(self):
        code = [("enter", 0), ("jzero", 1, 5), NOP, ("leave", 0), ("jump", 8), NOP, NOP, ("leave", 0), DONE]
        self.assertEqual(self.reload(0, range(64), code), 3 * LOST_CODE)

    def test_section_of_an_operation(self):
        code = [("enter", 0), NOP, NOP, ("leave", 0), BACK]
        self.assertEqual(self.reload(0, range(64), code), 2 * LOST_CODE)

    def test_data(self):
        code = [("load", 1, 3), ("enter", 0), ("load", 1, 5), NOP, ("leave", 0), DONE]
        processor = machine((1, 1, 1), (8, 1, 1))
        table = records(processor, code, [0])
        self.assertEqual([section_reload(processor, code, table, 0, 1, [], [at]) for at in (3, 5)], [0, LOST_DATA])

    def test_arguments_stay(self):
        table = records(self.MACHINE, self.CODE, [0])
        check_pure(self, section_reload, self.MACHINE, self.CODE, table, 0, 1, [0, 1], [0])


class ChargeTest(unittest.TestCase):
    def test_document_example(self):
        processor = ((2, 1, 1), (2, 1, 1), Costs())
        code = [("load", 1, 4), ("load", 2, 4), ("done",), ("load", 1, 6), ("done",)]
        table = records(processor, code, [0, 3])
        self.assertEqual(charge(processor, code, table, {1: 0, 2: 3}, [], 2, 1), 30)

    def of(self, bodies, limits, j, n, processor=machine((64, 1, 1))):
        """The charge for bodies by their numbers; the sets are as many as the addresses of the code."""
        code, starts = [], {}
        for number, body in bodies.items():
            starts[number] = len(code)
            code += body + [DONE]
        table = records(processor, code, list(starts.values()))
        self.assertEqual(charge(processor, code, table, starts, limits, j, n),
                         plain_charge(processor, code, table, starts, limits, j, n))
        return charge(processor, code, table, starts, limits, j, n) // LOST_CODE

    def test_the_number_itself(self):
        bodies = {1: [NOP] * 5, 2: [NOP] * 5}
        one = machine((1, 4, 16))
        self.assertEqual([self.of(bodies, [], number, number, one) for number in (1, 2)], [0, 0])

    def test_no_shared_sets(self):
        self.assertEqual(self.of({1: [NOP] * 5, 2: [NOP] * 5}, [], 2, 1), 0)

    def test_numbers_in_between(self):
        """All code lies in one set with 4 ways; the line size makes routines know different numbers of lines."""
        one = machine((1, 4, 1))
        bodies = {1: [NOP], 2: [NOP] * 2, 4: [NOP] * 3, 7: [NOP] * 4, 9: [NOP]}
        self.assertEqual([self.of(bodies, [], 9, n, one) for n in (1, 2, 4, 7, 9)], [4, 4, 4, 4, 0])
        self.assertEqual([self.of(bodies, [], 7, n, one) for n in (1, 2, 4, 7)], [3, 3, 3, 0])
        self.assertEqual([self.of(bodies, [], 4, n, one) for n in (1, 2, 4)], [2, 2, 0])
        self.assertEqual([self.of(bodies, [], 2, n, one) for n in (1, 2)], [1, 0])
        bodies = {1: [NOP] * 4, 2: [NOP] * 2, 4: [NOP]}
        self.assertEqual([self.of(bodies, [], 4, n, one) for n in (1, 2, 4)], [4, 2, 0])

    def test_sets_of_all_numbers_from_j_on(self):
        """Number 1 uses the sets 0 to 4, number 2 the sets 5 to 7, number 3 the sets 0 and 1."""
        bodies = {1: [NOP] * 4, 2: [NOP] * 2, 3: [NOP]}
        ten = machine((8, 4, 1))
        self.assertEqual(self.of(bodies, [], 2, 1, ten), 2)
        self.assertEqual(self.of(bodies, [], 3, 1, ten), 2)
        self.assertEqual(self.of(bodies, [], 3, 2, ten), 0)
        self.assertEqual(self.of({1: [NOP] * 4, 2: [NOP] * 8, 3: [NOP]}, [], 3, 1, ten), 2)

    SECTION = [NOP] * 9 + [("enter", 0), NOP, NOP, ("leave", 0)]

    def test_sections_of_lower_numbers(self):
        """The ceiling must be at least n and less than j."""
        one = machine((1, 4, 1))
        bodies = {1: self.SECTION, 3: [], 5: [], 7: []}
        found = [self.of(bodies, [limit], 7, 5, one) for limit in (1, 3, 4, 5, 6, 7, 8, 10, 0)]
        self.assertEqual(found, [0, 0, 0, 2, 2, 0, 0, 0, 0])
        found = [self.of(bodies, [limit], 5, 3, one) for limit in (1, 2, 3, 4, 5, 7)]
        self.assertEqual(found, [0, 0, 2, 2, 0, 0])
        self.assertEqual(self.of(bodies, [5], 5, 5, one), 0)

    def test_sections_of_the_number_itself(self):
        """They are a part of the body, which counts anyway."""
        self.assertEqual(self.of({3: self.SECTION, 5: []}, [4], 5, 3, machine((1, 4, 1))), 4)

    def test_sections_of_greater_numbers(self):
        self.assertEqual(self.of({1: [], 3: [], 5: self.SECTION}, [4], 5, 3, machine((1, 4, 1))), 0)
        self.assertEqual(self.of({1: [], 3: [], 5: self.SECTION}, [3], 3, 1, machine((1, 4, 1))), 0)

    def test_several_sections(self):
        rows = [("enter", 0), NOP, ("leave", 0), ("enter", 1), NOP, NOP, NOP, ("leave", 1), ("enter", 0), NOP, NOP, ("leave", 0)]
        one = machine((1, 4, 1))
        self.assertEqual([self.of({1: rows, 2: [], 5: []}, limits, 5, 2, one) for limits in ([2, 2], [2, 1], [5, 3], [1, 9], [4, 5])],
                         [3, 2, 3, 0, 2])

    def test_sections_of_operations_do_not_count(self):
        """An object that an operation enters has no greater ceiling than the one that is entered around it."""
        code = [("enter", 0), ("link", 6), ("leave", 0), DONE, DONE, DONE, ("enter", 1), NOP, NOP, ("leave", 1), BACK]
        processor = machine((1, 4, 1))
        starts = {1: 0, 3: 4, 5: 5}
        table = records(processor, code, list(starts.values()))
        for limits in ([5, 3], [9, 3], [2, 3]):
            self.assertEqual(charge(processor, code, table, starts, limits, 5, 3), 0)
        self.assertEqual(charge(processor, code, table, starts, [3, 3], 5, 3), 4 * LOST_CODE)

    def test_callees_of_sections_and_bodies(self):
        code = [("enter", 0), ("link", 6), ("leave", 0), DONE, DONE, DONE, NOP, NOP, NOP, BACK]
        processor = machine((1, 4, 1))
        starts = {1: 0, 3: 4, 5: 5}
        table = records(processor, code, list(starts.values()))
        self.assertEqual(charge(processor, code, table, starts, [3], 5, 3), 3 * LOST_CODE)
        self.assertEqual(charge(processor, code, table, starts, [2], 5, 3), 0)
        self.assertEqual(charge(processor, code, table, starts, [2], 5, 1), 3 * LOST_CODE)

    def test_random_programs(self):
        greatest = 0
        for seed in range(60):
            program = ValidMaker(seed).program()
            processor = random_processor(random.Random(seed))
            image = build(program, processor[0][2], processor[1][2])
            starts = starts_of(program, image)
            table = records(processor, image[1], list(starts.values()))
            limits = ceilings(program)
            for j in starts:
                for n in [number for number in starts if number <= j]:
                    found = charge(processor, image[1], table, starts, limits, j, n)
                    self.assertEqual(found, plain_charge(processor, image[1], table, starts, limits, j, n))
                    greatest = max(greatest, found)
        self.assertGreater(greatest, 0)

    def test_arguments_stay(self):
        code = self.SECTION + [DONE, DONE]
        processor = machine((1, 4, 1))
        table = records(processor, code, [0, 14])
        check_pure(self, charge, processor, code, table, {1: 0, 2: 14}, [1], 2, 1)


class PreemptionTest(unittest.TestCase):
    """Point 21.4: what runs take at most if others use some sets in between."""

    def spoil(self, chance, cache, sets):
        """Replaces the lines of some sets by others."""
        rows = [list(lines) for lines in cache.rows]
        for number in sets:
            rows[number] = chance.sample([number + cache.sets * k for k in range(50, 60)], chance.randrange(cache.ways + 1))
        cache.fill(rows)

    def check_run(self, processor, code, table, start, seed):
        chance = random.Random(seed)
        sets = [sorted(chance.sample(range(shape[0]), chance.randrange(shape[0] + 1))) for shape in processor[:2]]
        board = new_board(processor[:2], [[chance.randrange(3) for _ in range(9)] for _ in range(8)], chance)
        board.data[:40] = [chance.randrange(3) for _ in range(40)]
        spoilt, often = [], chance.choice([0.02, 0.1, 0.5, 1])

        def look(at, depth):
            happens = chance.random() < often
            spoilt.append(happens)
            if happens:
                self.spoil(chance, board.code_cache, sets[0])
                self.spoil(chance, board.data_cache, sets[1])

        run = Run(processor[2], code, start, board, look)
        most = routine_bound(table[start]) + sum(spoilt) * routine_reload(processor, code, table, start, *sets)
        self.assertLessEqual(run.time, most)
        self.check_sections(run, spoilt, {e: (bound, section_reload(processor, code, table, at, e, *sets))
                                          for at in table for e, _, bound in section_bounds(table[at])})
        return sum(spoilt)

    def check_sections(self, run, spoilt, bounds):
        opened = []
        for step, (at, _, instruction, _) in enumerate(run.steps):
            if instruction[0] == "enter":
                opened.append((at, step + 1))
            if instruction[0] == "leave":
                e, first = opened.pop()
                bound, cost = bounds[e]
                time = sum(row[1] for row in run.steps[first:step + 1])
                self.assertLessEqual(time, bound + sum(spoilt[first:step + 1]) * cost)

    def test_random_code(self):
        many = 0
        for seed in range(250):
            code, start = random_code(seed)
            processor = random_processor(random.Random(seed))
            table = records(processor, code, [start])
            many += self.check_run(processor, code, table, start, seed)
        self.assertGreater(many, 1000)

    def test_one_preemption_that_costs_all(self):
        """The reload cost is reached: every line that the claim knows is used again."""
        processor = machine((4, 1, 1))
        code = [("count", 0, 2), NOP, ("again", 0, 1), DONE]
        table = records(processor, code, [0])
        for at in range(len(code) + 2):
            board, looks = new_board(processor[:2]), []

            def look(_, __):
                looks.append(None)
                if len(looks) == at:
                    board.code_cache.fill([[], [], [], []])

            run = Run(COSTS, code, 0, board, look)
            self.assertLessEqual(run.time, routine_bound(table[0]) + routine_reload(processor, code, table, 0, [0, 1, 2, 3], []))
            if at == 4:
                self.assertEqual(run.time, routine_bound(table[0]) + 2 * LOST_CODE)


if __name__ == "__main__":
    unittest.main()
