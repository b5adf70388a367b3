"""Points 16.1 to 16.6: the loops and the places of routines."""

import random
import unittest

from deadbeat.cpu import Costs
from deadbeat.errors import BoundError, CodeError
from deadbeat.loops import around, follow, loops, places
from tests import naive
from tests.purity import check_pure
from tests.routines import broken, random_code
from tests.runs import Run, new_board

DONE, NOP = ("done",), ("set", 0, 0)


def nested(many, rounds=2):
    """Loops in one another: their counts and then their agains."""
    code = []
    for number in range(many):
        code.append(("count", number, rounds))
    for number in range(many - 1, -1, -1):
        code.append(("again", number, number + 1))
    return code


class Cases(unittest.TestCase):
    def bad(self, code, start=0):
        for function in (loops, places):
            with self.assertRaises(BoundError) as caught:
                function(code, start)
            self.assertEqual(caught.exception.at, start)

    def good(self, code, start=0):
        found = loops(code, start)
        self.assertEqual(found, naive.find_loops(code, start))
        return found


class LoopsTest(Cases):
    def test_document_examples(self):
        self.assertEqual(loops([("count", 0, 3), ("out", 1, 0), ("again", 0, 1), ("done",)], 0), [(1, 2, 3, (1, 2))])
        self.bad([("set", 1, 3), ("jzero", 1, 0), ("done",)])

    def test_no_loops(self):
        self.assertEqual(loops([DONE], 0), [])
        self.assertEqual(loops([("jzero", 1, 2), NOP, ("jump", 4), NOP, DONE], 0), [])
        self.assertEqual(loops([("count", 0, 5), DONE], 0), [])

    def test_again_that_goes_forward(self):
        self.assertEqual(loops([("again", 0, 1), DONE], 0), [])
        self.assertEqual(loops([("again", 0, 2), NOP, DONE], 0), [])

    def test_side_by_side(self):
        code = [("count", 0, 2), NOP, ("again", 0, 1), ("count", 0, 64), NOP, NOP, ("again", 0, 4), DONE]
        self.assertEqual(loops(code, 0), [(1, 2, 2, (1, 2)), (4, 6, 64, (4, 5, 6))])

    def test_right_behind_one_another(self):
        code = [("count", 0, 2), ("again", 0, 1), ("count", 1, 3), ("again", 1, 3), DONE]
        self.assertEqual(self.good(code), [(1, 1, 2, (1,)), (3, 3, 3, (3,))])

    def test_bounds(self):
        for many in (1, 2, 63, 64):
            self.assertEqual(loops([("count", 9, many), NOP, ("again", 9, 1), DONE], 0), [(1, 2, many, (1, 2))])

    def test_head_that_is_the_tail(self):
        self.assertEqual(self.good([("count", 9, 5), ("again", 9, 1), DONE]), [(1, 1, 5, (1,))])

    def test_nested(self):
        self.assertEqual(self.good(nested(2) + [DONE]), [(1, 3, 2, (1, 2, 3)), (2, 2, 2, (2,))])
        found = self.good(nested(4, 7) + [DONE])
        self.assertEqual([row[:3] for row in found], [(1, 7, 7), (2, 6, 7), (3, 5, 7), (4, 4, 7)])
        self.assertEqual(found[0][3], (1, 2, 3, 4, 5, 6, 7))

    def test_at_most_four_in_one_another(self):
        for many in range(5):
            self.assertEqual(len(loops(nested(many) + [DONE], 0)), many)
        self.bad(nested(5) + [DONE])
        self.bad(nested(6) + [DONE])

    def test_many_side_by_side(self):
        code = []
        for number in range(20):
            code += [("count", 0, 2), ("again", 0, len(code) + 1)]
        self.assertEqual(len(loops(code + [DONE], 0)), 20)

    def test_two_fours_in_a_row(self):
        code = nested(4)
        shifted = [(row[0], row[1], row[2] + len(code)) if row[0] == "again" else row for row in code]
        self.assertEqual(len(loops(code + shifted + [DONE], 0)), 8)

    def test_ways_out_of_the_middle(self):
        code = [("count", 0, 3), ("jzero", 1, 5), ("jzero", 2, 6), NOP, ("again", 0, 1), NOP, DONE]
        self.assertEqual(self.good(code), [(1, 4, 3, (1, 2, 3, 4))])
        code = [("count", 0, 3), ("jzero", 1, 3), ("jump", 4), DONE, ("again", 0, 1), DONE]
        self.assertEqual(self.good(code), [(1, 4, 3, (1, 2, 4))])

    def test_way_out_of_two_loops(self):
        code = [("count", 0, 3), ("count", 1, 4), ("jzero", 1, 5), ("again", 1, 2), ("again", 0, 1), DONE]
        self.assertEqual(self.good(code), [(1, 4, 3, (1, 2, 3, 4)), (2, 3, 4, (2, 3))])

    def test_condition_inside(self):
        code = [("count", 0, 3), ("jzero", 1, 4), NOP, ("jump", 5), NOP, ("again", 0, 1), DONE]
        self.assertEqual(self.good(code), [(1, 5, 3, (1, 2, 3, 4, 5))])

    def test_links_are_no_edges(self):
        code = [("count", 0, 3), ("link", 4), ("again", 0, 1), DONE, ("again", 0, 4), ("back",)]
        self.assertEqual(loops(code, 0), [(1, 2, 3, (1, 2))])
        self.bad(code, 4)

    def test_start(self):
        code = [NOP, ("count", 0, 3), ("again", 0, 2), DONE]
        self.assertEqual(loops(code, 1), [(2, 2, 3, (2,))])
        self.assertEqual(loops(code, 3), [])

    def test_same_counter_behind_a_loop(self):
        self.assertEqual(len(loops([("count", 0, 3), ("again", 0, 1), ("count", 0, 5), DONE], 0)), 1)
        self.assertEqual(len(loops([("count", 0, 9), ("count", 0, 3), ("again", 0, 2), DONE], 0)), 1)

    def test_other_counter_inside(self):
        self.assertEqual(len(loops([("count", 0, 3), ("count", 1, 3), ("again", 0, 1), DONE], 0)), 1)
        self.assertEqual(len(loops([("count", 0, 3), ("again", 1, 2), ("again", 0, 1), DONE], 0)), 1)


class FaultTest(Cases):
    def test_backward_jzero_and_jump(self):
        self.bad([("count", 0, 3), ("jzero", 1, 1), DONE])
        self.bad([("count", 0, 3), NOP, ("jzero", 1, 1), DONE])
        self.bad([("jzero", 1, 0), DONE])
        self.bad([("jzero", 1, 2), ("jump", 0), DONE])
        self.bad([("jump", 2), DONE, ("jump", 1)])

    def test_backward_edges_with_the_number_of_the_counter(self):
        self.bad([("count", 1, 3), ("jzero", 1, 1), DONE])
        self.bad([("count", 1, 3), NOP, ("jzero", 1, 1), DONE])
        self.bad([("count", 1, 3), ("jzero", 0, 3), ("jump", 1), DONE])

    def test_two_tails_for_one_head(self):
        self.bad([("count", 0, 3), NOP, ("again", 0, 1), ("again", 0, 1), DONE])
        self.bad([("count", 0, 3), ("count", 1, 3), ("again", 1, 1), ("again", 0, 1), DONE])

    def test_count_that_is_missing(self):
        self.bad([("again", 0, 0), DONE])
        self.bad([NOP, ("again", 0, 1), DONE])
        self.bad([("count", 0, 3), NOP, ("again", 0, 2), DONE])
        self.bad([("again", 0, 1), ("again", 0, 1), DONE])

    def test_count_of_another_counter(self):
        self.bad([("count", 1, 3), ("again", 0, 1), DONE])
        self.bad([("count", 0, 3), ("count", 1, 3), ("again", 0, 2), DONE])

    def test_count_that_is_jumped_over(self):
        self.bad([("jzero", 1, 2), ("count", 0, 3), NOP, ("again", 0, 2), DONE])

    def test_count_that_is_not_reached(self):
        self.bad([("jump", 2), ("count", 0, 3), NOP, ("again", 0, 2), DONE])
        self.bad([("count", 0, 3), NOP, ("again", 0, 1), DONE], 1)
        self.bad([("count", 0, 3), ("again", 0, 1), DONE], 1)

    def test_start_inside_a_loop(self):
        self.bad([("count", 0, 3), NOP, NOP, ("again", 0, 1), DONE], 2)

    def test_head_that_does_not_dominate_its_tail(self):
        self.bad([("jzero", 1, 3), ("count", 0, 3), NOP, NOP, ("again", 0, 2), DONE])
        self.bad([("jzero", 1, 3), ("count", 0, 3), NOP, ("again", 0, 2), DONE])

    def test_further_edge_to_the_head(self):
        self.bad([("jzero", 1, 3), NOP, ("count", 0, 3), NOP, ("again", 0, 3), DONE])
        self.bad([("jzero", 1, 2), ("count", 0, 3), ("again", 0, 2), DONE])

    def test_further_edge_to_the_count(self):
        code = [("jzero", 1, 2), NOP, ("count", 0, 3), NOP, ("again", 0, 3), DONE]
        self.assertEqual(loops(code, 0), [(3, 4, 3, (3, 4))])

    def test_counter_inside(self):
        self.bad([("count", 0, 3), ("count", 0, 3), ("again", 0, 1), DONE])
        self.bad([("count", 0, 3), ("again", 0, 2), ("again", 0, 1), DONE])
        self.bad([("count", 0, 3), ("count", 0, 2), ("again", 0, 2), ("again", 0, 1), DONE])
        self.bad([("count", 0, 3), ("jzero", 1, 3), ("count", 0, 64), ("again", 0, 1), DONE])

    def test_loops_that_cross(self):
        """Nothing else is wrong here than that the address behind the first tail is a member of its loop."""
        self.bad([("count", 0, 3), NOP, ("count", 1, 3), NOP, ("again", 0, 1), ("again", 1, 3), DONE])

    def test_code_that_is_not_well_formed_comes_first(self):
        for code in ([("enter", 0), ("jzero", 1, 1), DONE], [("jzero", 1, 0), ("leave", 1), DONE], [("jump", 0)],
                     [NOP, ("jzero", 1, 0), ("link", 99), DONE], [("again", 0, 0), NOP]):
            for function in (loops, places):
                with self.assertRaises(CodeError) as caught:
                    function(code, 0)
                self.assertEqual(caught.exception.at, 0)

    def test_random_code(self):
        """Loops of random code, and of code with faults, against the definitions."""
        many = {True: 0, False: 0}
        for seed in range(1200):
            code, start = random_code(seed)
            chance = random.Random(seed)
            for _ in range(seed % 3):
                code = broken(code, chance)
            start = min(start, len(code) - 1)
            if naive.stacks(code, start) is None:
                with self.assertRaises(CodeError):
                    loops(code, start)
                continue
            expected = naive.find_loops(code, start)
            many[expected is None] += 1
            if expected is None:
                self.bad(code, start)
            else:
                self.assertEqual(loops(code, start), expected)
                self.assertEqual(places(code, start), naive.all_places(code, expected, (start, ())))
        self.assertGreater(many[True], 50)
        self.assertGreater(many[False], 500)


CODE = [NOP, ("count", 0, 3), NOP, ("count", 1, 2), ("jzero", 1, 8), ("jzero", 2, 9), ("again", 1, 4), ("again", 0, 2),
        NOP, DONE]


class PlacesTest(Cases):
    def test_around(self):
        found = self.good(CODE)
        self.assertEqual(found, [(2, 7, 3, (2, 3, 4, 5, 6, 7)), (4, 6, 2, (4, 5, 6))])
        self.assertEqual([around(found, p) for p in range(10)],
                         [(), (), (2,), (2,), (2, 4), (2, 4), (2, 4), (2,), (), ()])
        self.assertEqual(around([], 3), ())
        deep = loops(nested(4) + [DONE], 0)
        self.assertEqual([around(deep, p) for p in range(9)],
                         [(), (1,), (1, 2), (1, 2, 3), (1, 2, 3, 4), (1, 2, 3), (1, 2), (1,), ()])

    def test_follow(self):
        found = loops(CODE, 0)
        for place, q, behind in (
            ((0, ()), 1, ()), ((1, ()), 2, (0,)), ((2, (0,)), 3, (0,)), ((2, (1,)), 3, (1,)),
            ((3, (0,)), 4, (0, 0)), ((3, (1,)), 4, (1, 0)), ((4, (0, 1)), 5, (0, 1)), ((5, (1, 0)), 6, (1, 0)),
            ((6, (0, 0)), 4, (0, 1)), ((6, (1, 0)), 4, (1, 1)), ((6, (0, 1)), 4, (0, 1)), ((6, (1, 1)), 4, (1, 1)),
            ((6, (0, 1)), 7, (0,)), ((6, (1, 0)), 7, (1,)), ((7, (0,)), 2, (1,)), ((7, (1,)), 2, (1,)), ((7, (1,)), 8, ()),
            ((4, (0, 1)), 8, ()), ((5, (1, 1)), 9, ()), ((8, ()), 9, ()),
        ):
            self.assertEqual(follow(found, place, q), (q, behind))
            self.assertEqual(naive.next_place(found, place, q), (q, behind))

    def test_follow_at_a_head_that_is_the_tail(self):
        found = loops([("count", 0, 3), ("again", 0, 1), DONE], 0)
        self.assertEqual([follow(found, (0, ()), 1), follow(found, (1, (0,)), 1), follow(found, (1, (1,)), 1),
                          follow(found, (1, (0,)), 2)], [(1, (0,)), (1, (1,)), (1, (1,)), (2, ())])

    def test_document_example(self):
        self.assertEqual(places([("count", 0, 3), ("out", 1, 0), ("again", 0, 1), ("done",)], 0),
                         [(0, ()), (1, (0,)), (1, (1,)), (2, (0,)), (2, (1,)), (3, ())])

    def test_places(self):
        self.assertEqual(places([DONE], 0), [(0, ())])
        self.assertEqual(places([NOP, ("jump", 3), NOP, DONE], 0), [(0, ()), (1, ()), (3, ())])
        self.assertEqual(places([NOP, ("jump", 3), NOP, DONE], 2), [(2, ()), (3, ())])
        pairs = [(0, 0), (0, 1), (1, 0), (1, 1)]
        self.assertEqual(places(CODE, 0), sorted(
            [(p, ()) for p in (0, 1, 8, 9)] + [(p, (turn,)) for p in (2, 3, 7) for turn in (0, 1)]
            + [(p, pair) for p in (4, 5, 6) for pair in pairs]))

    def test_places_of_a_loop_with_one_round(self):
        """Places follow edges, whatever the bound of the loop is."""
        self.assertEqual(places([("count", 0, 1), ("again", 0, 1), DONE], 0), [(0, ()), (1, (0,)), (1, (1,)), (2, ())])

    def test_each_depth(self):
        for many in range(5):
            found = places(nested(many) + [DONE], 0)
            self.assertEqual(len([row for row in found if row[0] == many]), 2 ** many)

    def test_arguments_stay(self):
        check_pure(self, loops, CODE, 0)
        check_pure(self, places, CODE, 0)
        found = loops(CODE, 0)
        check_pure(self, around, found, 4)
        check_pure(self, follow, found, (6, (0, 0)), 4)


class RoundsTest(unittest.TestCase):
    def test_number_of_rounds(self):
        """Point 16.5, and the places of point 16.6, in runs with random registers, data and counters."""
        for seed in range(150):
            code, start = random_code(seed)
            found = loops(code, start)
            chance = random.Random(seed)
            board = new_board([(1, 1, 1), (1, 1, 1)], [[chance.randrange(3) for _ in range(9)] for _ in range(8)])
            board.data[:40] = [chance.randrange(3) for _ in range(40)]
            board.counters[:] = [chance.randrange(2 ** 32) for _ in range(256)]
            run = Run(Costs(), code, start, board)
            path = [at for at, _, _, depth in run.steps if depth == 0]
            reached = places(code, start)
            place = (start, ())
            for at in path[1:]:
                place = follow(found, place, at)
                self.assertIn(place, reached)
            for head, tail, many, members in found:
                self.check_loop(code, path, head, tail, many, members)

    def check_loop(self, code, path, head, tail, many, members):
        free = not any(set(naive.following(code, p)) - set(members) for p in members if p != tail)
        for index, at in enumerate(path):
            if at == head and path[index - 1] == head - 1:
                stay = path[index:]
                inside = next(k for k, p in enumerate(stay) if p not in members)
                rounds = stay[:inside].count(head)
                self.assertLessEqual(rounds, many)
                if free:
                    self.assertEqual(rounds, many)
