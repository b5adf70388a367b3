"""Points 24.1 to 24.4, with 18.3 and 16.2 to 16.4: which certificates are accepted."""

import random
import unittest

from deadbeat.admit import admission, slack_of, starts_of
from deadbeat.audit import audit, certify, claims_right, records_right, verdict_right
from deadbeat.cpu import Costs
from deadbeat.errors import BoundError, CodeError
from deadbeat.images import build
from deadbeat.longest import claims
from deadbeat.loops import loops, places
from deadbeat.sections import records
from tests.certificates import (
    changed_claims, changed_records, changed_verdict, claims_hold, forgetful, records_hold, replaced, slow_costs, verdict_holds,
)
from tests.programs import ValidMaker, interrupt, num, operation, put, shared, system, task
from tests.purity import check_pure
from tests.routines import random_code
from tests.test_must import random_processor

DONE, BACK, NOP = ("done",), ("back",), ("set", 0, 0)
SMALL = (1, 1, 1)
FLAT = Costs(fetch_miss=1, load_miss=1)
TWO_WAYS = ((1, 2, 1), (1, 2, 1), Costs())


class ClaimsTest(unittest.TestCase):
    """Lists of claims with one change each. Claims are (place, known code, known data, base, weights)."""

    def right(self, code, rows, processor=(SMALL, SMALL, FLAT), place=(0, ()), ends=(), called=None):
        found = loops(code, 0)
        called = {} if called is None else called
        expected = claims_hold(processor, code, found, place, list(ends), called, rows)
        self.assertEqual(claims_right(processor, code, found, place, list(ends), called, rows), expected)
        self.assertIs(type(claims_right(processor, code, found, place, list(ends), called, rows)), bool)
        return expected

    # A plain instruction costs 2 here, and "done" 10.
    STRAIGHT = [NOP, NOP, DONE]
    ROWS = [((0, ()), [], [], 14, ()), ((1, ()), [], [], 12, ()), ((2, ()), [], [], 10, ())]

    def test_straight_code(self):
        self.assertTrue(self.right(self.STRAIGHT, self.ROWS))

    def test_own_claims(self):
        for seed in range(60):
            code, start = random_code(seed)
            processor = random_processor(random.Random(seed))
            table = records(processor, code, [start])
            called = {at: row[2][0][3] for at, row in table.items()}
            for at, record in table.items():
                self.assertTrue(claims_right(processor, code, loops(code, at), (at, ()), [], called, record[2]))

    def test_base_one_less(self):
        for at in range(3):
            rows = list(self.ROWS)
            rows[at] = replaced(rows[at], 3, rows[at][3] - 1)
            self.assertFalse(self.right(self.STRAIGHT, rows))

    def test_base_one_more(self):
        """Only the claims ahead of it are too small then."""
        for at in range(3):
            rows = list(self.ROWS)
            rows[at] = replaced(rows[at], 3, rows[at][3] + 1)
            self.assertEqual(self.right(self.STRAIGHT, rows), at == 0)
        self.assertTrue(self.right(self.STRAIGHT, [replaced(row, 3, row[3] + 1) for row in self.ROWS]))

    def test_great_bases(self):
        great = 10 ** 5000
        self.assertTrue(self.right(self.STRAIGHT, [replaced(row, 3, row[3] + great) for row in self.ROWS]))
        self.assertFalse(self.right(self.STRAIGHT, [replaced(row, 3, row[3] - great) for row in self.ROWS]))

    def test_missing_and_doubled_claims(self):
        for at in range(3):
            self.assertFalse(self.right(self.STRAIGHT, self.ROWS[:at] + self.ROWS[at + 1:]))
            self.assertFalse(self.right(self.STRAIGHT, self.ROWS + [self.ROWS[at]]))
            self.assertFalse(self.right(self.STRAIGHT, self.ROWS + [replaced(self.ROWS[at], 3, 99)]))
        self.assertFalse(self.right(self.STRAIGHT, []))

    def test_any_order(self):
        self.assertTrue(self.right(self.STRAIGHT, self.ROWS[::-1]))
        self.assertTrue(self.right(self.STRAIGHT, [self.ROWS[1], self.ROWS[2], self.ROWS[0]]))

    def test_more_claims_than_needed(self):
        """A claim ahead of the first place; it must be right, too."""
        rows = self.ROWS[1:]
        self.assertTrue(self.right(self.STRAIGHT, rows, place=(1, ())))
        self.assertTrue(self.right(self.STRAIGHT, self.ROWS, place=(1, ())))
        self.assertFalse(self.right(self.STRAIGHT, [replaced(self.ROWS[0], 3, 13)] + rows, place=(1, ())))
        self.assertFalse(self.right(self.STRAIGHT, [((0, ()), [(0, 1), (0, 0)], [], 14, ())] + rows, place=(1, ())))

    def test_claims_behind_an_end(self):
        rows = [((0, ()), [], [], 4, ()), ((1, ()), [], [], 2, ())]
        self.assertTrue(self.right(self.STRAIGHT, rows, ends=[1]))
        self.assertTrue(self.right(self.STRAIGHT, rows + [self.ROWS[2]], ends=[1]))
        self.assertFalse(self.right(self.STRAIGHT, rows + [replaced(self.ROWS[2], 3, 9)], ends=[1]))
        self.assertFalse(self.right(self.STRAIGHT, rows))

    def test_places_that_do_not_exist(self):
        for place in ((3, ()), (-1, ()), (1, (0,)), (10 ** 30, ())):
            self.assertFalse(self.right(self.STRAIGHT, self.ROWS + [(place, [], [], 99, (0,) * len(place[1]))]))

    def test_no_code_behind(self):
        """The claim of an address whose successor is outside of the code."""
        self.assertFalse(self.right([DONE, NOP], [((0, ()), [], [], 10, ()), ((1, ()), [], [], 99, ())]))

    def test_known_lines(self):
        """With two ways in one set the last two lines are known."""
        first, then, last = self.ROWS
        for known, right in (([(0, 1), (1, 0)], True), ([(0, 1)], True), ([(1, 1)], True), ([(0, 0)], False), ([(1, 0), (0, 1)], False),
                             ([(1, 0), (1, 0)], False), ([(1, 0), (1, 1)], False), ([(0, 2)], False), ([(1, 2)], False), ([(1, -1)], False),
                             ([(0, 1), (1, 0), (2, 1)], False), ([(2, 0)], False)):
            rows = [((0, ()), [], [], 99, ()), ((1, ()), [(0, 0)], [], 80, ()), ((2, ()), known, [], 60, ())]
            self.assertEqual(self.right(self.STRAIGHT, rows, TWO_WAYS), right, known)

    def test_known_data(self):
        code = [("load", 1, 4), ("store", 1, 5), DONE]
        for known, right in (([], True), ([(4, 0)], False), ([(4, 1)], True), ([(5, 0)], False), ([(4, 2)], False), ([(4, -1)], False)):
            rows = [((0, ()), [], [], 200, ()), ((1, ()), [], [(4, 0)], 100, ()), ((2, ()), [], known, 60, ())]
            self.assertEqual(self.right(code, rows, TWO_WAYS), right, known)

    def test_first_place_knows_nothing(self):
        for at, known in ((1, [(9, 0)]), (2, [(9, 0)])):
            rows = [replaced(self.ROWS[0], at, known)] + self.ROWS[1:]
            self.assertFalse(self.right(self.STRAIGHT, rows, TWO_WAYS))

    def test_lines_that_are_needed(self):
        """A claim that knows less than the claim behind it needs is refused, though its cost is large enough."""
        rows = [((0, ()), [], [], 99, ()), ((1, ()), [(0, 0)], [], 80, ()), ((2, ()), [(0, 1), (1, 0)], [], 60, ())]
        self.assertTrue(self.right(self.STRAIGHT, rows, TWO_WAYS))
        self.assertFalse(self.right(self.STRAIGHT, [rows[0], replaced(rows[1], 1, []), rows[2]], TWO_WAYS))
        self.assertTrue(self.right(self.STRAIGHT, [rows[0], replaced(rows[1], 1, []), replaced(rows[2], 1, [(1, 0)])], TWO_WAYS))

    # A round costs 1 + 4 and 1 + 2, and 1 more if it is not the last one: 9, 9 and 8. "count" costs 3, "done" 10.
    LOOP = [("count", 0, 3), ("out", 1, 0), ("again", 0, 1), DONE]
    LOOP_ROWS = [
        ((0, ()), [], [], 39, ()), ((1, (0,)), [], [], 36, (0,)), ((1, (1,)), [], [], 9, (9,)), ((2, (0,)), [], [], 31, (0,)),
        ((2, (1,)), [], [], 4, (9,)), ((3, ()), [], [], 10, ()),
    ]

    def test_loop(self):
        self.assertTrue(self.right(self.LOOP, self.LOOP_ROWS))

    def right_loop(self, bound=3):
        code = [("count", 0, bound)] + self.LOOP[1:]
        return code, claims((SMALL, SMALL, FLAT), code, loops(code, 0), (0, ()), [], {})

    def test_each_number_of_a_loop(self):
        code, rows = self.right_loop()
        self.assertTrue(self.right(code, rows))
        found = set()
        for at, row in enumerate(rows):
            less = rows[:at] + [replaced(row, 3, row[3] - 1)] + rows[at + 1:]
            self.assertFalse(self.right(code, less))
            for more in (-1, 1):
                for item in range(len(row[4])):
                    other = rows[:at] + [replaced(row, 4, replaced(row[4], item, row[4][item] + more))] + rows[at + 1:]
                    found.add(self.right(code, other))
        self.assertEqual(found, {False})

    def test_greater_weights(self):
        """All weights of a loop may be greater together, if the claims ahead of the loop grow with them."""
        code, rows = self.right_loop()
        place = {row[0]: row for row in rows}
        more = [replaced(row, 4, (row[4][0] + 1,)) if row[0][1] == (1,) else row for row in rows]
        self.assertFalse(self.right(code, more))
        grown = [replaced(row, 3, row[3] + 2) if row[0] in ((0, ()), (1, (0,)), (2, (0,))) else row for row in more]
        self.assertTrue(self.right(code, grown))
        grown = [replaced(row, 3, row[3] + 1) if row[0] in ((0, ()), (1, (0,)), (2, (0,))) else row for row in more]
        self.assertFalse(self.right(code, grown))
        self.assertEqual(place[(1, (1,))][4], (9,))

    def test_weight_where_the_item_is_0(self):
        code, rows = self.right_loop()
        for at, row in enumerate(rows):
            if row[0][1] == (0,):
                self.assertFalse(self.right(code, rows[:at] + [replaced(row, 4, (1,))] + rows[at + 1:]))
                self.assertFalse(self.right(code, rows[:at] + [replaced(row, 4, (-1,))] + rows[at + 1:]))

    def test_weights_below_0(self):
        """Bases that are large enough do not make up for it."""
        code, rows = self.right_loop()
        rows = [replaced(row, 3, 1000) for row in rows]
        for weight in (-1, -10 ** 40):
            self.assertFalse(self.right(code, [replaced(row, 4, (weight,)) if row[0][1] == (1,) else row for row in rows]))

    def test_number_of_weights(self):
        code, rows = self.right_loop()
        for at, row in enumerate(rows):
            self.assertFalse(self.right(code, rows[:at] + [replaced(row, 4, row[4] + (0,))] + rows[at + 1:]))
            self.assertFalse(self.right(code, rows[:at] + [replaced(row, 4, row[4][1:] if row[4] else (0,))] + rows[at + 1:]))

    def test_turns(self):
        code, rows = self.right_loop()
        for turns in ((2,), (-1,), (0, 0), (), (10 ** 40,)):
            for weight in (0, 9):
                self.assertFalse(self.right(code, rows + [((2, turns), [], [], 999, (weight,) * len(turns))]))

    def test_bound_of_1(self):
        """The edge back is never taken, and the way out is, though the item is 0."""
        code, rows = self.right_loop(1)
        self.assertTrue(self.right(code, rows))
        table = {row[0]: row for row in rows}
        self.assertEqual(table[(2, (0,))][3], 3 + 10)
        self.assertEqual(table[(0, ())][3], 3 + 5 + 3 + 10)
        # What the places in later rounds say does not matter for the others.
        far = [replaced(row, 3, row[3] + 500) if row[0][1] == (1,) else row for row in rows]
        self.assertTrue(self.right(code, far))
        for at, row in enumerate(rows):
            if row[0][1] != (1,):
                self.assertFalse(self.right(code, rows[:at] + [replaced(row, 3, row[3] - 1)] + rows[at + 1:]))

    def test_way_out_in_the_first_round(self):
        """With a bound of 2 or more it is not taken at the tail, and asks for nothing but known lines."""
        code = [("count", 0, 2), ("jzero", 1, 3), ("again", 0, 1), NOP, DONE]
        rows = claims((SMALL, SMALL, FLAT), code, loops(code, 0), (0, ()), [], {})
        self.assertTrue(self.right(code, rows))
        table = {row[0]: row for row in rows}
        tail = table[(2, (0,))]
        self.assertFalse(self.right(code, [replaced(row, 3, row[3] - 1) if row is tail else row for row in rows]))
        # The way out of the first round is far more expensive here than the claim of the tail says.
        code = [("count", 0, 2), NOP, ("again", 0, 1), DONE]
        rows = [((0, ()), [], [], 99, ()), ((1, (0,)), [], [], 90, (0,)), ((2, (0,)), [], [], 88, (0,)),
                ((1, (1,)), [], [], 84 - 50, (50,)), ((2, (1,)), [], [], 82 - 50, (50,)), ((3, ()), [], [], 10, ())]
        self.assertTrue(self.right(code, rows))
        rows = [replaced(row, 3, row[3] - 10 ** 9) if row[0] != (3, ()) else row for row in rows]
        self.assertFalse(self.right(code, rows))
        rows = [((0, ()), [], [], 33, ()), ((1, (0,)), [], [], 30, (0,)), ((2, (0,)), [], [], 28, (0,)),
                ((1, (1,)), [], [], 15 - 6, (6,)), ((2, (1,)), [], [], 13 - 6, (6,)), ((3, ()), [], [], 10, ())]
        for last, right in ((10, True), (11, False)):
            self.assertEqual(self.right(code, rows[:-1] + [((3, ()), [], [], last, ())]), right)

    def test_known_lines_on_edges_that_are_not_taken(self):
        """The edge back of a loop with the bound 1 still passes on what is known."""
        code = [("count", 0, 1), NOP, ("again", 0, 1), DONE]
        processor = ((4, 1, 1), SMALL, Costs())
        rows = claims(processor, code, loops(code, 0), (0, ()), [], {})
        self.assertTrue(self.right(code, rows, processor))
        for place in ((1, (1,)), (2, (1,))):
            changed = [replaced(row, 1, row[1] + [(7, 0)]) if row[0] == place else row for row in rows]
            self.assertFalse(self.right(code, changed, processor))

    def test_calls(self):
        code = [("link", 2), DONE, BACK]
        rows = [((0, ()), [], [], 3 + 7 + 10, ()), ((1, ()), [], [], 10, ())]
        self.assertTrue(self.right(code, rows, called={2: 7}))
        self.assertFalse(self.right(code, rows, called={2: 8}))
        self.assertTrue(self.right(code, rows, called={2: 6, 9: 50}))

    def test_calls_of_unknown_routines(self):
        """A claim of another routine, which calls one without a bound."""
        code = [DONE, ("link", 3), DONE, BACK]
        rows = [((0, ()), [], [], 10, ()), ((1, ()), [], [], 999, ()), ((2, ()), [], [], 10, ())]
        self.assertTrue(self.right(code, rows, called={3: 7}))
        self.assertFalse(self.right(code, rows, called={}))
        self.assertFalse(self.right(code, rows, called={1: 7}))

    def test_ends_in_a_loop(self):
        """The weight counts at an end address, too."""
        code, _ = self.right_loop()
        ends = [2]
        rows = claims((SMALL, SMALL, FLAT), code, loops(code, 0), (1, (1,)), ends, {})
        self.assertTrue(self.right(code, rows, place=(1, (1,)), ends=ends))
        rows = [((1, (1,)), [], [], -1, (9,)), ((2, (1,)), [], [], -6, (9,))]
        self.assertTrue(self.right(code, rows, place=(1, (1,)), ends=ends))
        self.assertFalse(self.right(code, [rows[0], replaced(rows[1], 3, -7)], place=(1, (1,)), ends=ends))
        self.assertFalse(self.right(code, [replaced(row, 4, (8,)) for row in rows], place=(1, (1,)), ends=ends))

    def test_nothing_is_known_behind_a_call(self):
        code = [("link", 2), DONE, BACK]
        for at, line in ((1, 0), (2, 5)):
            rows = [((0, ()), [], [], 99, ()), replaced(((1, ()), [], [], 40, ()), at, [(line, 0)])]
            self.assertFalse(self.right(code, rows, TWO_WAYS, called={2: 7}))

    def test_kernel_acts(self):
        code = [("enter", 0), ("leave", 0), DONE]
        rows = [((0, ()), [], [], 24, ()), ((1, ()), [], [], 17, ()), ((2, ()), [], [], 10, ())]
        self.assertTrue(self.right(code, rows))
        for at in range(2):
            self.assertFalse(self.right(code, [replaced(row, 3, row[3] - (row[0][0] <= at)) for row in rows]))

    def test_taken_edges(self):
        code = [("jzero", 1, 2), NOP, DONE]
        rows = [((0, ()), [], [], 14, ()), ((1, ()), [], [], 12, ()), ((2, ()), [], [], 10, ())]
        self.assertTrue(self.right(code, rows))
        self.assertFalse(self.right(code, [replaced(rows[0], 3, 13)] + rows[1:]))
        code = [("jzero", 1, 1), DONE]
        self.assertEqual([self.right(code, [((0, ()), [], [], base, ()), ((1, ()), [], [], 10, ())]) for base in (12, 13)], [False, True])

    def test_arguments_stay(self):
        check_pure(self, claims_right, (SMALL, SMALL, FLAT), self.STRAIGHT, [], (0, ()), [], {}, self.ROWS)

    def test_random_changes(self):
        seen = {True: 0, False: 0}
        for seed in range(400):
            chance = random.Random(seed)
            code, start = random_code(seed % 150)
            processor = random_processor(chance)
            table = records(processor, code, [start])
            called = {at: row[2][0][3] for at, row in table.items()}
            found = loops(code, start)
            rows = table[start][2]
            if seed % 4 == 0:
                slow = (*processor[:2], slow_costs(processor[2]))
                rows = forgetful(claims(slow, code, found, (start, ()), [], called))
            for _ in range(12):
                given = changed_claims(chance, rows)
                if chance.random() < 0.3:
                    given = changed_claims(chance, given)
                right = claims_right(processor, code, found, (start, ()), [], called, given)
                self.assertEqual(right, claims_hold(processor, code, found, (start, ()), [], called, given))
                seen[right] += 1
        self.assertGreater(min(seen.values()), 900)

    def test_claims_that_know_less(self):
        """Claims that count every access as a miss are right, with what is known and without."""
        for seed in range(60):
            code, start = random_code(seed)
            processor = random_processor(random.Random(seed))
            slow = (*processor[:2], slow_costs(processor[2]))
            table = records(slow, code, [start])
            called = {at: row[2][0][3] for at, row in table.items()}
            for at, record in table.items():
                for rows in (record[2], forgetful(record[2])):
                    self.assertTrue(claims_right(processor, code, loops(code, at), (at, ()), [], called, rows))


class RecordsTest(unittest.TestCase):
    PROCESSOR = (SMALL, SMALL, FLAT)
    # A body with a section that calls an operation, and a body with two sections.
    CODE = [("enter", 0), ("link", 11), ("leave", 0), DONE,
            ("enter", 1), ("leave", 1), ("enter", 0), ("leave", 0), DONE, NOP, NOP,
            ("count", 0, 2), ("again", 0, 12), BACK]
    STARTS = [0, 4]

    def rows(self, code=None, starts=None):
        code = code or self.CODE
        table = records(self.PROCESSOR, code, starts or self.STARTS)
        return [table[start] for start in sorted(table, reverse=True)]

    def right(self, rows, code=None, starts=None):
        code, starts = code or self.CODE, self.STARTS if starts is None else starts
        right = records_right(self.PROCESSOR, code, starts, rows)
        self.assertIs(type(right), bool)
        self.assertEqual(right, records_hold(self.PROCESSOR, code, starts, rows))
        return right

    def test_own_records(self):
        self.assertEqual([row[0] for row in self.rows()], [11, 4, 0])
        self.assertTrue(self.right(self.rows()))

    def test_no_records(self):
        self.assertTrue(self.right([], starts=[]))
        self.assertFalse(self.right([]))

    def test_missing_record(self):
        for at in range(3):
            rows = self.rows()
            del rows[at]
            self.assertFalse(self.right(rows))
        self.assertFalse(self.right(self.rows()[2:], starts=[0]))

    def test_more_records_than_needed(self):
        self.assertTrue(self.right(self.rows(), starts=[0]))
        self.assertTrue(self.right(self.rows(), starts=[]))
        self.assertTrue(self.right(self.rows(), starts=[4, 0, 4]))
        other = records(self.PROCESSOR, self.CODE[:9] + [NOP, DONE], [9])[9]
        code = self.CODE[:9] + [NOP, DONE] + self.CODE[11:]
        self.assertTrue(self.right(self.rows() + [other], code))

    def test_starts_without_a_body(self):
        self.assertFalse(self.right(self.rows(), starts=[0, 4, 11]))
        self.assertFalse(self.right(self.rows(), starts=[0, 4, 9]))

    def test_record_twice(self):
        for at in range(3):
            rows = self.rows()
            self.assertFalse(self.right(rows + [rows[at]]))

    def test_order(self):
        """Only callees must stand ahead of their callers."""
        last, two, one = self.rows()
        for rows, right in (([last, one, two], True), ([two, last, one], True), ([one, last, two], False), ([two, one, last], False)):
            self.assertEqual(self.right(rows), right)

    def test_other_ending(self):
        for at in range(3):
            rows = self.rows()
            rows[at] = replaced(rows[at], 1, {"body": "operation", "operation": "body"}[rows[at][1]])
            self.assertFalse(self.right(rows))
        for row in self.rows(starts=[4, 11]):
            other = {"body": "operation", "operation": "body"}[row[1]]
            self.assertTrue(self.right([row], starts=[]))
            self.assertFalse(self.right([replaced(row, 1, other)], starts=[]))
            self.assertFalse(self.right([replaced(row, 1, "")], starts=[]))

    def test_address_that_is_no_routine(self):
        rows = self.rows()
        for start in (14, -1, -3, 5, 10 ** 40, 1):
            self.assertFalse(self.right(rows + [(start, "body", [((start, ()), [], [], 99, ())], [])]))

    def test_address_of_two_routines(self):
        """A routine that begins inside of another one."""
        code = [NOP, NOP, DONE]
        table = records(self.PROCESSOR, code, [0])
        other = records(self.PROCESSOR, code, [1])[1]
        self.assertTrue(self.right([other], code, [1]))
        self.assertFalse(self.right([table[0], other], code, [0]))
        self.assertFalse(self.right([other, table[0]], code, [0]))

    def test_claims_of_records(self):
        for at in range(3):
            rows = self.rows()
            first = rows[at][2][0]
            rows[at] = replaced(rows[at], 2, [replaced(first, 3, first[3] - 1)] + rows[at][2][1:])
            self.assertFalse(self.right(rows))
            rows[at] = replaced(rows[at], 2, [])
            self.assertFalse(self.right(rows))

    def test_bounds_of_callees(self):
        """A record with a greater bound than needed is right, but then those of its callers must be greater, too."""
        last, two, one = self.rows()
        greater = replaced(last, 2, [replaced(last[2][0], 3, last[2][0][3] + 5)] + last[2][1:])
        self.assertTrue(self.right([greater, two], starts=[4]))
        self.assertFalse(self.right([greater, two, one]))
        grown = [replaced(row, 3, row[3] + 5 * (row[0][0] <= 1)) for row in one[2]]
        inner = [replaced(row, 3, row[3] + 5 * (row[0][0] <= 1)) for row in one[3][0][2]]
        self.assertFalse(self.right([greater, two, (0, "body", grown, one[3])]))
        self.assertFalse(self.right([greater, two, (0, "body", one[2], [(0, 0, inner)])]))
        self.assertTrue(self.right([greater, two, (0, "body", grown, [(0, 0, inner)])]))

    def test_sections(self):
        last, two, one = self.rows()
        first, second = two[3]
        for sections, right in (([first, second], True), ([first], False), ([second], False), ([], False), ([second, first], False),
                                ([first, first, second], False), ([first, second, second], False),
                                ([(4, 0, first[2]), second], False), ([(5, 1, first[2]), second], False),
                                ([first, (6, 0, first[2])], False), ([(4, 1, second[2]), second], False), ([(4, 1, []), second], False)):
            self.assertEqual(self.right([last, replaced(two, 3, sections), one]), right)

    def test_claims_of_sections(self):
        last, two, one = self.rows()
        e, o, inner = two[3][0]
        for base, right in ((-1, False), (0, True), (1, True)):
            rows = [replaced(inner[0], 3, inner[0][3] + base)] + inner[1:]
            self.assertEqual(self.right([last, replaced(two, 3, [(e, o, rows), two[3][1]]), one]), right)

    def test_sections_with_more_claims_than_needed(self):
        """The claims of the whole routine say enough about the section, too, if they know nothing."""
        last, two, one = self.rows()
        whole = forgetful(one[2])
        self.assertTrue(self.right([last, two, replaced(one, 3, [(0, 0, whole)])]))

    def test_section_in_a_loop(self):
        """Only the smallest place behind the enter is the first one, and only that one must know nothing."""
        code = [("count", 0, 3), ("enter", 0), NOP, ("leave", 0), ("again", 0, 1), DONE]
        processor = ((8, 1, 1), SMALL, Costs())
        record = records(processor, code, [0])[0]
        e, o, inner = record[3][0]
        self.assertEqual([row[0] for row in inner], [(2, (0,)), (3, (0,))])
        later = [(place[:1] + ((1,),), known, data, base, (0,)) for place, known, data, base, _ in inner]
        for rows, right in ((inner, True), (inner + later, True), (later, False), (inner + later[:1], False), (inner[:1] + later, False)):
            given = [replaced(record, 3, [(e, o, rows)])]
            self.assertEqual(records_right(processor, code, [0], given), right)
            self.assertEqual(records_hold(processor, code, [0], given), right)

    def faulty(self, code, rows, starts=(0,)):
        self.assertFalse(self.right(rows, code, list(starts)))

    def test_routines_that_are_not_well_formed(self):
        claim = ((0, ()), [], [], 99, ())
        for code in ([("leave", 0), DONE], [NOP, NOP], [("enter", 0), DONE]):
            self.faulty(code, [(0, "body", [claim, replaced(claim, 0, (1, ()))], [])])

    def test_loops_that_are_not_allowed(self):
        for code in ([("jzero", 1, 0), DONE], [NOP, NOP, ("again", 0, 1), DONE], [("count", 1, 2), ("again", 0, 1), DONE]):
            rows = [((p, turns), [], [], 999, (0,) * len(turns)) for p in range(len(code)) for turns in ((), (0,), (1,))]
            self.faulty(code, [(0, "body", rows, [])])
            self.faulty(code, [(0, "body", [row for row in rows if row[0][1] == ()], [])])

    def test_callee_that_is_a_body(self):
        code = [("link", 2), DONE, DONE]
        body = (2, "body", [((2, ()), [], [], 10, ())], [])
        self.faulty(code, [body, (0, "body", [((0, ()), [], [], 99, ()), ((1, ()), [], [], 10, ())], [])])

    def test_routine_that_calls_itself(self):
        code = [("link", 0), BACK]
        self.faulty(code, [(0, "operation", [((0, ()), [], [], 999, ()), ((1, ()), [], [], 99, ())], [])], [])

    def test_counters_of_callees(self):
        for caller, callee, right in ((7, 7, False), (7, 8, True)):
            code = [("count", caller, 2), ("link", 3), DONE, ("link", 5), BACK, ("count", callee, 2), BACK]
            rows = [(5, "operation", [((5, ()), [], [], 6, ()), ((6, ()), [], [], 3, ())], []),
                    (3, "operation", [((3, ()), [], [], 12, ()), ((4, ()), [], [], 3, ())], []),
                    (0, "body", [((0, ()), [], [], 28, ()), ((1, ()), [], [], 25, ()), ((2, ()), [], [], 10, ())], [])]
            self.assertEqual(self.right(rows, code, [0]), right)
        code = [("count", 7, 2), ("link", 3), DONE, ("count", 7, 2), BACK]
        rows = [(3, "operation", [((3, ()), [], [], 6, ()), ((4, ()), [], [], 3, ())], []),
                (0, "body", [((0, ()), [], [], 99, ()), ((1, ()), [], [], 50, ()), ((2, ()), [], [], 10, ())], [])]
        self.faulty(code, rows)

    def test_counters_of_routines_that_do_not_call_one_another(self):
        code = [("count", 7, 2), DONE, ("count", 7, 2), DONE]
        self.assertTrue(self.right(self.rows(code, [0, 2]), code, [0, 2]))

    def test_arguments_stay(self):
        check_pure(self, records_right, self.PROCESSOR, self.CODE, self.STARTS, self.rows(), shared=[self.PROCESSOR])

    def test_random_changes(self):
        seen = {True: 0, False: 0}
        for seed in range(150):
            chance = random.Random(seed)
            code, start = random_code(seed % 120)
            processor = random_processor(chance)
            table = records(processor, code, [start])
            for _ in range(8):
                rows = changed_records(chance, list(table.values()))
                right = records_right(processor, code, [start], rows)
                self.assertEqual(right, records_hold(processor, code, [start], rows))
                seen[right] += 1
        self.assertGreater(min(seen.values()), 100)


def call(thing):
    return ("call", None, thing, "f", [])


BOX = shared("box", [("v", 0)], [operation("f", [], [], [put("v", num(1))])])
OUTER = shared("outer", [], [operation("f", [], [], [call("box")])])


def full_program(scale=20000):
    """Two tasks and two interrupts that share two objects."""
    return system(objects=[OUTER, BOX], tasks=[
        task("low", [call("outer"), ("loop", "i", 4, None, [put("v", num(2))])], [("v", 0)], scale, scale - 7),
        task("high", [call("box")], [], scale + 9, scale // 2),
        task("free", [put("v", num(2))], [("v", 0)], scale + 20, scale // 3),
    ], interrupts=[interrupt("i", "box", "f", [], scale + 1, scale // 4), interrupt("j", "box", "f", [], scale + 2, scale // 5)])


class VerdictTest(unittest.TestCase):
    PROCESSOR = ((2, 2, 4), (2, 2, 4), Costs())

    def setUp(self):
        self.program = full_program()
        self.rows, self.verdict = certify(self.program, self.PROCESSOR)
        self.image = build(self.program, 4, 4)

    def right(self, verdict):
        right = verdict_right(self.program, self.PROCESSOR, self.image, self.rows, verdict)
        self.assertIs(type(right), bool)
        self.assertEqual(right, verdict_holds(self.program, self.PROCESSOR, self.image, self.rows, verdict))
        self.assertEqual(audit(self.program, self.PROCESSOR, (self.rows, verdict)), right)
        return right

    def change(self, at, item, by):
        """The verdict with another number in one row."""
        rows = list(self.verdict[3])
        rows[at] = replaced(rows[at], item, rows[at][item] + by)
        return replaced(self.verdict, 3, rows)

    def test_own_verdict(self):
        self.assertTrue(self.verdict[1])
        self.assertTrue(self.right(self.verdict))

    def test_not_admitted(self):
        self.assertFalse(self.right(replaced(self.verdict, 1, False)))

    def test_slack(self):
        self.assertFalse(self.right(replaced(self.verdict, 2, self.verdict[2] - 1)))
        # A greater slack asks for a greater `blocked`.
        self.assertFalse(self.right(replaced(self.verdict, 2, self.verdict[2] + 1)))
        rows = [(number, own, blocked + 1, above, response + 1) for number, own, blocked, above, response in self.verdict[3]]
        self.assertTrue(self.right(("verdict", True, self.verdict[2] + 1, rows)))
        self.assertEqual(self.verdict[2], slack_of(Costs()))

    def test_numbers_and_rows(self):
        rows = self.verdict[3]
        for other in (rows[:-1], rows[1:], [], rows + rows[-1:], rows[::-1], rows[:1] + rows[:1] + rows[2:], rows[1:2] + rows[:1] + rows[2:]):
            self.assertFalse(self.right(replaced(self.verdict, 3, other)))
        for at in range(5):
            self.assertFalse(self.right(self.change(at, 0, 1)))

    def test_own_and_blocked(self):
        for at in range(5):
            for item in (1, 2):
                self.assertFalse(self.right(self.change(at, item, -1)))
                # The demand is greater than the response then.
                self.assertFalse(self.right(self.change(at, item, 1)))
                rows = list(self.change(at, item, 1)[3])
                rows[at] = replaced(rows[at], 4, rows[at][4] + 1)
                self.assertTrue(self.right(replaced(self.verdict, 3, rows)))

    def above(self, at, pairs, more=0):
        rows = list(self.verdict[3])
        rows[at] = replaced(replaced(rows[at], 3, pairs), 4, rows[at][4] + more)
        return self.right(replaced(self.verdict, 3, rows))

    def test_above(self):
        for at in range(5):
            pairs = self.verdict[3][at][3]
            self.assertTrue(self.above(at, list(pairs)))
            self.assertFalse(self.above(at, pairs + [(900, 1)], 9))
            for pair, (every, cost) in enumerate(pairs):
                self.assertFalse(self.above(at, pairs[:pair] + pairs[pair + 1:]))
                self.assertFalse(self.above(at, pairs[:pair] + [(every, cost - 1)] + pairs[pair + 1:]))
                self.assertFalse(self.above(at, pairs[:pair] + [(every, cost + 1)] + pairs[pair + 1:]))
                self.assertTrue(self.above(at, pairs[:pair] + [(every, cost + 1)] + pairs[pair + 1:], 1))
                self.assertFalse(self.above(at, pairs[:pair] + [(every + 1, cost)] + pairs[pair + 1:], 50))
                self.assertFalse(self.above(at, pairs[:pair] + [(every - 1, cost)] + pairs[pair + 1:], 50))
            if len(pairs) > 1:
                self.assertFalse(self.above(at, pairs[::-1], 50))

    def test_response(self):
        deadlines = [part[3] for part in self.program[4] + self.program[5]]
        for at, within in enumerate(deadlines):
            response = self.verdict[3][at][4]
            for value, right in ((response, True), (response - 1, False), (response + 1, True), (within, True), (within + 1, False),
                                 (0, False), (-1, False), (None, False), (10 ** 40, False)):
                rows = list(self.verdict[3])
                rows[at] = replaced(rows[at], 4, value)
                self.assertEqual(self.right(replaced(self.verdict, 3, rows)), right, (at, value))

    def test_great_numbers(self):
        for at in range(5):
            for item in (1, 2):
                self.assertFalse(self.right(self.change(at, item, 10 ** 5000)))
        self.assertFalse(self.right(replaced(self.verdict, 2, 10 ** 5000)))

    def test_bounds_of_other_records(self):
        """The sums are those of the records in the certificate."""
        task_row = self.image[2][2]
        self.assertEqual(task_row[0], ("task", 0))
        rows = list(self.rows)
        at = [row[0] for row in rows].index(task_row[1])
        first = rows[at][2][0]
        rows[at] = replaced(rows[at], 2, [replaced(first, 3, first[3] + 1)] + rows[at][2][1:])
        self.assertFalse(audit(self.program, self.PROCESSOR, (rows, self.verdict)))
        self.assertTrue(audit(self.program, self.PROCESSOR, (rows, self.grown(0, 1))))
        self.assertTrue(audit(self.program, self.PROCESSOR, (self.rows, self.grown(0, 1))))

    def grown(self, at, by):
        """The verdict with a greater own time and response in one row."""
        rows = list(self.verdict[3])
        number, own, blocked, above, response = rows[at]
        rows[at] = (number, own + by, blocked, above, response + by)
        return replaced(self.verdict, 3, rows)

    def test_bounds_of_other_sections(self):
        low = next(at for at, row in enumerate(self.rows) if row[0] == self.image[2][2][1])
        e, o, inner = self.rows[low][3][0]
        greater = [replaced(inner[0], 3, inner[0][3] + 1)] + inner[1:]
        rows = list(self.rows)
        rows[low] = replaced(rows[low], 3, [(e, o, greater)] + rows[low][3][1:])
        self.assertFalse(audit(self.program, self.PROCESSOR, (rows, self.verdict)))
        higher = [(number, own, blocked + (number > 1), above, response + (number > 1))
                  for number, own, blocked, above, response in self.verdict[3]]
        self.assertTrue(audit(self.program, self.PROCESSOR, (rows, replaced(self.verdict, 3, higher))))

    def test_nothing_to_run(self):
        verdict = ("verdict", True, 22, [])
        for program in (system(), system(objects=[BOX])):
            for given, right in ((verdict, True), (replaced(verdict, 1, False), False), (replaced(verdict, 2, 21), False),
                                 (replaced(verdict, 2, 23), True), (replaced(verdict, 3, [(1, 9, 9, [], 9)]), False)):
                self.assertEqual(audit(program, self.PROCESSOR, ([], given)), right)

    def test_arguments_stay(self):
        check_pure(self, verdict_right, self.program, self.PROCESSOR, self.image, self.rows, self.verdict, shared=[self.PROCESSOR])


class CertificateTest(unittest.TestCase):
    def test_own_certificates(self):
        seen = set()
        for seed in range(40):
            program = ValidMaker(seed).program()
            processor = random_processor(random.Random(seed))
            certificate = certify(program, processor)
            self.assertIs(type(certificate), tuple)
            rows, verdict = certificate
            self.assertEqual(verdict, admission(program, processor))
            image = build(program, processor[0][2], processor[1][2])
            table = records(processor, image[1], list(starts_of(program, image).values()))
            self.assertEqual({row[0]: row for row in rows}, table)
            self.assertEqual(len(rows), len(table))
            self.assertEqual(audit(program, processor, certificate), verdict[1])
            seen.add(verdict[1])
        self.assertEqual(seen, {True, False})

    def test_slow_certificates(self):
        """A certificate for a processor without hits is accepted where its responses are short enough."""
        program = full_program(40000)
        processor = ((4, 2, 4), (4, 2, 4), Costs())
        slow = (*processor[:2], slow_costs(processor[2]))
        certificate = certify(program, slow)
        self.assertTrue(certificate[1][1])
        self.assertTrue(audit(program, slow, certificate))
        rows, _ = certificate
        rows = [(start, last, forgetful(found), [(e, o, forgetful(inner)) for e, o, inner in sections])
                for start, last, found, sections in rows]
        self.assertTrue(audit(program, processor, (rows, certificate[1])))

    def test_certificate_of_another_processor(self):
        program = full_program()
        one, other = ((4, 2, 4), (4, 2, 4), Costs()), ((4, 2, 4), (4, 2, 4), Costs(port=5, store=5))
        self.assertFalse(audit(program, other, certify(program, one)))
        self.assertTrue(audit(program, one, certify(program, other)))

    def test_certificate_of_another_program(self):
        program, other = full_program(), full_program(20001)
        processor = ((4, 2, 4), (4, 2, 4), Costs())
        self.assertFalse(audit(other, processor, certify(program, processor)))
        self.assertFalse(audit(system(), processor, certify(program, processor)))
        self.assertFalse(audit(program, processor, ([], ("verdict", True, 22, []))))

    def test_no_records_for_the_rows(self):
        program = full_program()
        processor = ((4, 2, 4), (4, 2, 4), Costs())
        rows, verdict = certify(program, processor)
        self.assertFalse(audit(program, processor, ([], verdict)))
        self.assertFalse(audit(program, processor, (rows, ("verdict", True, verdict[2], []))))

    def test_errors(self):
        long = system(tasks=[task("u", [put("v", num(1))] * 2048, [("v", 0)])])
        processor = (SMALL, SMALL, Costs())
        for function, given in ((certify, (long, processor)), (audit, (long, processor, ([], ("verdict", True, 22, []))))):
            with self.assertRaises(CodeError) as caught:
                function(*given)
            self.assertEqual(caught.exception.at, 4098)
        body = []
        for name in "abcde":
            body = [("loop", name, 2, None, body)]
        deep = system(tasks=[task("t", body)])
        with self.assertRaises(BoundError):
            certify(deep, processor)
        self.assertFalse(audit(deep, processor, ([(0, "body", [], [])], ("verdict", True, 22, [(1, 9, 9, [], 9)]))))

    def test_random_changes(self):
        seen = {True: 0, False: 0}
        for seed in range(110):
            chance = random.Random(seed)
            program = full_program() if seed % 4 == 0 else ValidMaker(seed).program()
            processor = random_processor(chance)
            image = build(program, processor[0][2], processor[1][2])
            if len(image[1]) > 250:
                continue
            rows, verdict = certify(program, processor)
            starts = list(starts_of(program, image).values())
            for _ in range(8):
                if chance.random() < 0.3:
                    given = (changed_records(chance, rows), verdict)
                else:
                    given = (rows, changed_verdict(chance, verdict))
                right = audit(program, processor, given)
                expected = records_hold(processor, image[1], starts, given[0])
                self.assertEqual(right, expected and verdict_holds(program, processor, image, *given))
                seen[right] += 1
        self.assertGreater(min(seen.values()), 70)

    def test_arguments_stay(self):
        program, processor = full_program(), ((2, 2, 4), (2, 2, 4), Costs())
        check_pure(self, certify, program, processor, shared=[processor])
        check_pure(self, audit, program, processor, certify(program, processor), shared=[processor])


if __name__ == "__main__":
    unittest.main()
