"""Compiled programs do what the programs mean: points 6.1 to 6.5 for the images of points 11 to 14."""

import random
import unittest

from deadbeat.cpu import Costs
from deadbeat.graphs import graph, successors
from deadbeat.images import build, entry, routine_at, watches
from deadbeat.layout import find_group
from deadbeat.meaning import fresh_fields, run_alone
from tests.programs import ValidMaker
from tests.runs import Run, new_board


class Watcher:
    """Collects the actions of a job from what its instructions leave in the data and at the ports."""

    def __init__(self, image, board):
        self.image, self.board, self.watches = image, board, watches(image)
        self.actions = []
        self.last = None

    def look(self, at, depth):
        """Is called ahead of each instruction, so it sees what the one before has done."""
        if self.last and self.last[0] == "link" and depth == 1:
            params, _ = self.watches[at]
            _, o, k = routine_at(self.image, at)
            self.actions.append(["call", o, k, [self.board.data[address] for address in params]])
        if self.last and self.last[0] == "back" and depth == 0:
            call = self.actions[-1]
            result = find_group(self.image[3], ("operation", call[1], call[2]))[5]
            self.actions[-1] = (*call, 0 if result is None else self.board.data[result])
        self.last = self.image[1][at]


def machine_fields(image, program, data):
    found = []
    for o in range(len(program[3])):
        cells = find_group(image[3], ("object", o))[3]
        found.append([data[address:address + max(size, 1)] for _, address, size in cells])
    return found


class CompiledTest(unittest.TestCase):
    def compare(self, seed):
        """Runs jobs one after the other on one board, which keeps the data of earlier jobs."""
        maker = ValidMaker(seed)
        program = maker.program()
        inputs = maker.inputs(program)
        chance = random.Random(seed)
        shapes = [(chance.randrange(1, 4), chance.randrange(1, 3), chance.choice([1, 2, 4, 8, 16])) for _ in range(2)]
        image = build(program, shapes[0][2], shapes[1][2])
        board = new_board(shapes, inputs, chance)
        fields, left = fresh_fields(program), inputs
        routines = [("task", t) for t in range(len(program[4]))] + [("interrupt", i) for i in range(len(program[5]))]
        for _ in range(4):
            who = chance.randrange(len(routines))
            written = [list(words) for words in board.outputs]
            watcher = Watcher(image, board)
            run = Run(Costs(), image[1], entry(image, routines[who]), board, watcher.look)
            actions, fields, left = run_alone(program, who, fields, left)
            self.assertEqual(watcher.actions, [action for action in actions if action[0] == "call"], seed)
            for action in actions:
                if action[0] == "write":
                    written[action[1]].append(action[2])
            self.assertEqual(board.outputs, written)
            self.assertEqual(machine_fields(image, program, board.data), fields)
            self.check_path(image[1], run)
        self.assertEqual([[board.take(port) for _ in words] for port, words in enumerate(left)], left)
        self.assertEqual([board.take(port) for port in range(8)], [0] * 8)

    def check_path(self, code, run):
        """Points 15.2, 15.4 and 15.6: each routine goes on to a successor, and has entered what its stack says."""
        graphs, around = {}, []
        for at, _, instruction, depth in run.steps:
            if depth == len(around):
                if at not in graphs:
                    graphs[at] = graph(code, at)
                around.append([at, None, []])
            while depth < len(around) - 1:
                around.pop()
            start, last, entered = around[-1]
            if last is not None:
                self.assertIn(at, successors(code, last))
            self.assertEqual(graphs[start][at], tuple(entered))
            around[-1][1] = at
            if instruction[0] == "enter":
                entered.append(instruction[1])
            if instruction[0] == "leave":
                self.assertEqual(entered.pop(), instruction[1])

    def test_random_programs(self):
        for seed in range(250):
            self.compare(seed)
