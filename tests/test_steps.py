"""Points 10.2 and 10.3, with 0.8 to 0.10: single steps of the processor."""

import random
import unittest

from deadbeat.caches import Cache
from deadbeat.codes import is_instruction
from deadbeat.cpu import Board, Core, Costs, step
from tests.machine import CALCULATIONS, Lines, Machine
from tests.purity import frozen

HIGH = 4294967295
WORDS = [0, 1, 2, 3, 5, 31, 32, 33, 63, 64, 65535, 65536, 2147483647, 2147483648, HIGH - 1, HIGH]


def fresh(code_shape=(1, 1, 4), data_shape=(1, 1, 4), inputs=()):
    return Core(0), Board(Cache(*code_shape), Cache(*data_shape), list(inputs))


def run(instruction, registers=(), data=(), counters=(), inputs=()):
    """Executes one instruction at the address 0, with some registers, data and counters. Returns core and board."""
    core, board = fresh(inputs=inputs)
    for old, new in ((core.registers, registers), (board.data, data), (board.counters, counters)):
        for index, word in dict(new).items():
            old[index] = word
    assert is_instruction(instruction)
    assert step(Costs(), [instruction], core, board)[1] == instruction
    return core, board


class FieldsTest(unittest.TestCase):
    def test_core(self):
        for at in (0, 7, 4095):
            self.assertEqual((Core(at).at, Core(at).registers), (at, [0] * 9))
        core, other = Core(1), Core(1)
        core.registers[3] = 4
        self.assertEqual(other.registers, [0] * 9)

    def test_board(self):
        board = fresh()[1]
        self.assertEqual(board.data, [0] * 16384)
        self.assertEqual(board.counters, [0] * 256)
        self.assertEqual(board.outputs, [[]] * 8)
        board.outputs[1].append(5)
        self.assertEqual(board.outputs, [[], [5], [], [], [], [], [], []])
        self.assertEqual(fresh()[1].outputs, [[]] * 8)

    def test_caches_are_duplicates(self):
        first, second = Cache(2, 2, 4), Cache(1, 3, 2)
        first.fill([[2, 4], [1]])
        second.fill([[9, 8]])
        board = Board(first, second, [])
        for cache, given in ((board.code_cache, first), (board.data_cache, second)):
            self.assertIsInstance(cache, Cache)
            self.assertEqual((cache.sets, cache.ways, cache.size, cache.rows), (given.sets, given.ways, given.size, given.rows))
        board.code_cache.read(0)
        board.data_cache.read(0)
        self.assertEqual((first.rows, second.rows), ([[2, 4], [1]], [[9, 8]]))
        first.read(24)
        self.assertEqual(board.code_cache.rows, [[0, 2], [1]])

    def test_one_cache_for_both(self):
        cache = Cache(1, 2, 1)
        core, board = Core(7), Board(cache, cache, [])
        step(Costs(), [("load", 1, 3)] * 8, core, board)
        self.assertEqual((board.code_cache.rows, board.data_cache.rows, cache.rows), ([[7]], [[3]], [[]]))


class TakeTest(unittest.TestCase):
    def test_in_order_and_zeros_at_the_end(self):
        board = fresh(inputs=[[7, 0, 9], [], [HIGH]])[1]
        self.assertEqual([board.take(0) for _ in range(5)], [7, 0, 9, 0, 0])
        self.assertEqual([board.take(2), board.take(2), board.take(1)], [HIGH, 0, 0])

    def test_ports_without_a_list(self):
        board = fresh(inputs=[[7]])[1]
        self.assertEqual([board.take(port) for port in range(7, -1, -1)], [0] * 7 + [7])

    def test_eight_ports(self):
        board = fresh(inputs=[[port] for port in range(8)])[1]
        self.assertEqual([board.take(port) for port in range(8)], list(range(8)))

    def test_inputs_stay(self):
        words = [7, 8]
        inputs = [words, [9]]
        board = fresh(inputs=inputs)[1]
        board.take(0)
        self.assertEqual(inputs, [[7, 8], [9]])
        words.clear()
        self.assertEqual(board.take(0), 8)

    def test_one_list_for_two_ports(self):
        words = [7, 8]
        board = fresh(inputs=[words, words])[1]
        self.assertEqual([board.take(0), board.take(1), board.take(1), board.take(0)], [7, 7, 8, 8])


class InstructionTest(unittest.TestCase):
    def test_set(self):
        for n, word in ((7, 7), (0, 0), (32767, 32767), (-1, HIGH), (-32768, 4294934528)):
            core, _ = run(("set", 3, n), {3: 99})
            self.assertEqual(core.registers, [0, 0, 0, word, 0, 0, 0, 0, 0])

    def test_high(self):
        for n in (0, 1, 32768, 65535):
            for before in WORDS:
                core, _ = run(("high", 4, n), {4: before})
                self.assertEqual(core.registers[4], n * 65536 + before % 65536)

    def test_calc(self):
        for k, expected in CALCULATIONS.items():
            for a in WORDS:
                for b in WORDS:
                    core, _ = run(("calc", k, 1, 2, 3), {1: 77, 2: a, 3: b})
                    self.assertEqual(core.registers, [0, expected(a, b) % 2 ** 32, a, b, 0, 0, 0, 0, 0], (k, a, b))

    def test_calc_by_0_and_shifts_from_32_on(self):
        for k, a, b, word in (("div", 7, 0, 0), ("mod", 7, 0, 7), ("shl", 3, 32, 3), ("shl", 3, 33, 6), ("shr", 12, 34, 3),
                              ("shr", 12, 32, 12), ("shl", 1, 31, 2147483648), ("shr", HIGH, 63, 1), ("shl", HIGH, 1, HIGH - 1),
                              ("nor", 0, 0, HIGH), ("nor", 5, 2, HIGH - 7), ("slt", HIGH, 0, 1), ("ult", HIGH, 0, 0),
                              ("sub", 0, 1, HIGH), ("mul", HIGH, HIGH, 1), ("and", 6, 3, 2), ("or", 6, 3, 7)):
            self.assertEqual(run(("calc", k, 1, 2, 3), {2: a, 3: b})[0].registers[1], word)

    def test_calc_with_one_register_in_several_roles(self):
        self.assertEqual(run(("calc", "sub", 2, 2, 2), {2: 9})[0].registers[2], 0)
        self.assertEqual(run(("calc", "add", 2, 2, 2), {2: 9})[0].registers[2], 18)
        self.assertEqual(run(("calc", "sub", 2, 3, 2), {2: 9, 3: 5})[0].registers[2], HIGH - 3)
        self.assertEqual(run(("calc", "sub", 2, 0, 2), {2: 9})[0].registers[2], HIGH - 8)

    def test_load_and_store(self):
        for address in (0, 5, 16383):
            core, board = run(("load", 2, address), {2: 8}, {address: 77})
            self.assertEqual((core.registers[2], board.data[address]), (77, 77))
            core, board = run(("store", 2, address), {2: 8}, {address: 77})
            self.assertEqual((core.registers[2], board.data[address], sum(board.data)), (8, 8, 8))

    def test_indexes(self):
        for n in (1, 2, 3, 64):
            for index in WORDS + [n - 1, n, n + 1, 2 * n, 2 * n + 1]:
                address = 100 + index % n
                core, board = run(("loadx", 2, 3, 100, n), {3: index}, {address: 55})
                self.assertEqual(core.registers, [0, 0, 55, index, 0, 0, 0, 0, 0])
                core, board = run(("storex", 2, 3, 100, n), {2: 66, 3: index}, {address: 55})
                self.assertEqual((board.data[address], sum(board.data)), (66, 66))
        self.assertEqual(run(("loadx", 2, 2, 16320, 64), {2: 63}, {16383: 9})[0].registers[2], 9)
        self.assertEqual(run(("storex", 3, 3, 100, 64), {3: 65})[1].data[101], 65)
        self.assertEqual(run(("loadx", 2, 0, 100, 64), {}, {100: 9})[0].registers[2], 9)

    def test_jumps(self):
        for p in (0, 1, 9, 4095):
            self.assertEqual(run(("jump", p))[0].at, p)
            self.assertEqual(run(("jzero", 3, p))[0].at, p)
            self.assertEqual(run(("jzero", 0, p), {3: 5})[0].at, p)
            self.assertEqual(run(("jzero", 3, p), {3: 5})[0].at, 1)
            self.assertEqual(run(("jzero", 3, p), {3: HIGH})[0].at, 1)

    def test_count(self):
        for c, n in ((0, 1), (255, 64), (7, 5)):
            core, board = run(("count", c, n), counters={c: 9, 100: 3})
            self.assertEqual((board.counters[c], board.counters[100], core.at), (n, 3, 1))

    def test_again(self):
        for before, behind, at in ((0, HIGH, 7), (1, 0, 1), (2, 1, 7), (64, 63, 7), (HIGH, HIGH - 1, 7)):
            core, board = run(("again", 9, 7), counters={9: before, 8: 4})
            self.assertEqual((board.counters[9], board.counters[8], core.at), (behind, 4, at))

    def test_link_and_back(self):
        core, board = fresh()
        code = [("set", 8, 3), ("set", 0, 0), ("link", 4), ("done",), ("back",)]
        for at, register in ((1, 3), (2, 3), (4, 3), (3, 3), (4, 3)):
            step(Costs(), code, core, board)
            self.assertEqual((core.at, core.registers), (at, [0] * 8 + [register]))
        core.at, core.registers[8] = 2, 99
        step(Costs(), code, core, board)
        self.assertEqual((core.at, core.registers[8]), (4, 3))

    def test_back_out_of_the_code(self):
        for word in (0, 4096, HIGH):
            self.assertEqual(run(("back",), {8: word})[0].at, word)

    def test_instructions_of_the_kernel(self):
        for instruction in (("enter", 0), ("leave", 3), ("done",)):
            core, board = run(instruction, {1: 5, 8: 6})
            plain = fresh()[1]
            self.assertEqual((core.at, core.registers), (1, [0, 5, 0, 0, 0, 0, 0, 0, 6]))
            self.assertEqual((board.data, board.counters, board.outputs), (plain.data, plain.counters, plain.outputs))

    def test_in(self):
        core, board = run(("in", 2, 1), {2: 5}, inputs=[[8], [9, 10]])
        self.assertEqual((core.registers[2], board.take(1), board.take(0)), (9, 10, 8))
        for port in (2, 7):
            self.assertEqual(run(("in", 2, port), {2: 5}, inputs=[[8], [9]])[0].registers[2], 0)
        self.assertEqual(run(("in", 2, 0), {2: 5}, inputs=[[]])[0].registers[2], 0)

    def test_out(self):
        for port in (0, 7):
            core, board = fresh()
            core.registers[2] = 5
            code = [("out", 2, port), ("out", 0, port), ("out", 2, port)]
            for _ in code:
                step(Costs(), code, core, board)
            self.assertEqual(board.outputs, [[5, 0, 5] if q == port else [] for q in range(8)])

    def test_register_0(self):
        """It holds 0 whatever is written to it; all other effects take place."""
        for instruction in (("set", 0, 7), ("high", 0, 7), ("calc", "nor", 0, 0, 0), ("calc", "eq", 0, 0, 0), ("load", 0, 5),
                            ("loadx", 0, 0, 5, 1), ("in", 0, 0)):
            core, board = run(instruction, {1: 4}, {5: 9}, inputs=[[8, 6]])
            self.assertEqual((core.registers, core.at), ([0, 4, 0, 0, 0, 0, 0, 0, 0], 1))
            self.assertEqual(board.data_cache.rows, [[1]] if instruction[0] in ("load", "loadx") else [[]])
            self.assertEqual(board.take(0), 6 if instruction[0] == "in" else 8)
        self.assertEqual(run(("store", 0, 5), {}, {5: 9})[1].data[5], 0)
        self.assertEqual(run(("calc", "add", 1, 0, 0), {1: 9})[0].registers[1], 0)
        self.assertEqual(run(("out", 0, 3))[1].outputs[3], [0])


class AddressTest(unittest.TestCase):
    def test_no_instruction(self):
        for at in (-1, 2, 3, 4095, 4096, HIGH):
            core, board = fresh(inputs=[[7]])
            core.at = at
            before = frozen((core, board))
            self.assertEqual(step(Costs(), [("set", 1, 7), ("done",)], core, board), (0, None))
            self.assertEqual(frozen((core, board)), before)

    def test_no_code(self):
        core, board = fresh()
        self.assertEqual(step(Costs(), [], core, board), (0, None))

    def test_running_out_of_the_code(self):
        core, board = fresh()
        code = [("set", 1, 7), ("jump", 9)]
        self.assertEqual([step(Costs(), code, core, board) for _ in range(4)], [(12, code[0]), (3, code[1]), (0, None), (0, None)])
        self.assertEqual(core.at, 9)
        core.at = 0
        self.assertEqual(step(Costs(), code[:1], core, board), (2, code[0]))
        self.assertEqual(core.at, 1)


class CachesTest(unittest.TestCase):
    def test_document_example(self):
        core, board = fresh()
        code = [("set", 1, 7), ("store", 1, 5), ("load", 2, 5), ("jump", 0)]
        self.assertEqual([step(Costs(), code, core, board)[0] for _ in range(4)], [12, 5, 12, 3])
        self.assertEqual([core.at, core.registers[2], board.data[5]], [0, 7, 7])

    def test_hits_and_misses(self):
        core, board = fresh((1, 1, 2), (1, 1, 2))
        code = [("load", 1, 0), ("load", 1, 1), ("store", 1, 2), ("load", 1, 2), ("store", 1, 3), ("load", 1, 0), ("jump", 0)]
        costs = [step(Costs(), code, core, board)[0] for _ in code]
        # Fetches miss at even addresses; the store does not bring its line in.
        self.assertEqual(costs, [11 + 11, 1 + 1, 11 + 4, 1 + 11, 11 + 4, 1 + 11, 11 + 2])
        self.assertEqual((board.code_cache.rows, board.data_cache.rows), ([[3]], [[0]]))

    def test_a_store_that_hits_uses_its_line(self):
        core, board = fresh((1, 1, 1), (1, 2, 1))
        code = [("load", 1, 0), ("load", 1, 1), ("store", 1, 0), ("load", 1, 2), ("load", 1, 0), ("storex", 1, 0, 2, 5)]
        for row in ([0], [1, 0], [0, 1], [2, 0], [0, 2], [2, 0]):
            step(Costs(), code, core, board)
            self.assertEqual(board.data_cache.rows, [row])

    def test_indexed_access_uses_its_line_only(self):
        core, board = fresh((1, 1, 1), (1, 4, 1))
        core.registers[2] = 9
        step(Costs(), [("loadx", 1, 2, 10, 7)], core, board)
        self.assertEqual(board.data_cache.rows, [[12]])

    def test_other_instructions_do_not_use_the_data_cache(self):
        for instruction in (("set", 1, 1), ("calc", "add", 1, 1, 1), ("count", 1, 1), ("link", 5), ("in", 1, 1), ("enter", 1)):
            self.assertEqual(run(instruction)[1].data_cache.rows, [[]])

    def test_the_caches_are_independent(self):
        core, board = fresh((1, 1, 1), (1, 1, 1))
        code = [("set", 0, 0)] * 5 + [("load", 1, 5)] * 2
        core.at = 5
        self.assertEqual([step(Costs(), code, core, board)[0] for _ in range(2)], [22, 12])


class WholeTest(unittest.TestCase):
    def instruction(self, chance, length):
        register = lambda: chance.randrange(9)
        address = lambda: chance.choice([chance.randrange(40), 16383])
        name = chance.choice("set high calc calc load store loadx storex jump jzero jzero count again link back in out "
                             "enter leave done".split())
        if name in ("set", "high"):
            return (name, register(), chance.choice([0, 1, 5, 9, 32767, -1, -32768] if name == "set" else [0, 1, 65535]))
        if name == "calc":
            return (name, chance.choice(list(CALCULATIONS)), register(), register(), register())
        if name in ("load", "store"):
            return (name, register(), address())
        if name in ("loadx", "storex"):
            return (name, register(), register(), chance.randrange(30), chance.choice([1, 2, 5, 64]))
        if name in ("jump", "link"):
            return (name, chance.randrange(length + 2))
        if name in ("jzero", "again"):
            return (name, chance.randrange(9), chance.randrange(length + 2))
        if name == "count":
            return (name, chance.randrange(9), chance.randrange(1, 5))
        if name in ("in", "out"):
            return (name, register(), chance.randrange(8))
        return (name, chance.randrange(4)) if name in ("enter", "leave") else (name,)

    def test_random_code(self):
        """Compares core, board and costs with another processor, step by step."""
        for seed in range(250):
            chance = random.Random(seed)
            length = chance.randrange(1, 30)
            code = [self.instruction(chance, length) for _ in range(length)]
            shapes = [(chance.randrange(1, 4), chance.randrange(1, 5), chance.choice([1, 2, 4, 8, 16])) for _ in range(2)]
            inputs = [[chance.choice(WORDS) for _ in range(chance.randrange(4))] for _ in range(chance.randrange(9))]
            costs = Costs(fetch_hit=2, fetch_miss=7, plain=3, mul=5, div=11, load_hit=13, load_miss=17, store=19, taken=23,
                          count=29, port=31)
            core, board = Core(0), Board(Cache(*shapes[0]), Cache(*shapes[1]), inputs)
            machine = Machine(costs, code, Lines(shapes[0]), Lines(shapes[1]), inputs)
            before = frozen((costs, code, inputs))
            for number in range(1, 9):
                core.registers[number] = machine.registers[number] = chance.choice(WORDS)
            for _ in range(60):
                if core.at >= length:
                    core.at = machine.at = chance.randrange(length)
                self.assertEqual(step(costs, code, core, board), machine.step())
                self.assertEqual((core.at, core.registers), (machine.at, machine.registers))
                self.assertEqual((board.data[:100], board.data[-50:]), (machine.data[:100], machine.data[-50:]))
                self.assertEqual((board.counters, board.outputs), (machine.counters, machine.outputs))
                self.assertEqual(board.code_cache.rows, machine.code_lines.rows())
                self.assertEqual(board.data_cache.rows, machine.data_lines.rows())
            self.assertEqual([board.take(port) for port in range(8)], [(words + [0])[0] for words in machine.inputs])
            self.assertEqual(frozen((costs, code, inputs)), before)
