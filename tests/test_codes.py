import itertools
import random
import unittest

from deadbeat.codes import decode, encode, is_instruction
from deadbeat.errors import CodeError

CALCULATIONS = ["add", "sub", "mul", "div", "mod", "and", "or", "xor", "shl", "shr", "ult", "ule", "slt", "sle", "eq",
                "ne", "nor"]
REGISTER, DATA, CODE, COUNTER = (0, 8), (0, 16383), (0, 4095), (0, 255)
# Opcode, then for each part its least and greatest value, and its highest and lowest bit.
FORMS = {
    "set": (1, [(REGISTER, 29, 26), ((-32768, 32767), 15, 0)]),
    "high": (2, [(REGISTER, 29, 26), ((0, 65535), 15, 0)]),
    "calc": (3, [(("add", "nor"), 17, 13), (REGISTER, 29, 26), (REGISTER, 25, 22), (REGISTER, 21, 18)]),
    "load": (4, [(REGISTER, 29, 26), (DATA, 13, 0)]),
    "store": (5, [(REGISTER, 29, 26), (DATA, 13, 0)]),
    "loadx": (6, [(REGISTER, 29, 26), (REGISTER, 25, 22), (DATA, 13, 0), ((1, 64), 19, 14)]),
    "storex": (7, [(REGISTER, 29, 26), (REGISTER, 25, 22), (DATA, 13, 0), ((1, 64), 19, 14)]),
    "jump": (8, [(CODE, 11, 0)]),
    "jzero": (9, [(REGISTER, 29, 26), (CODE, 11, 0)]),
    "count": (10, [(COUNTER, 29, 22), ((1, 64), 5, 0)]),
    "again": (11, [(COUNTER, 29, 22), (CODE, 11, 0)]),
    "link": (12, [(CODE, 11, 0)]),
    "back": (13, []),
    "done": (14, []),
    "enter": (15, [((0, 3), 3, 0)]),
    "leave": (16, [((0, 3), 3, 0)]),
    "in": (17, [(REGISTER, 29, 26), ((0, 7), 3, 0)]),
    "out": (18, [(REGISTER, 29, 26), ((0, 7), 3, 0)]),
}
# Code words by the table of the document, written as shifted parts.
EXAMPLES = [
    (("set", 8, 32767), 1 << 30 | 8 << 26 | 32767),
    (("set", 0, -32768), 1 << 30 | 32768),
    (("set", 5, 0), 1 << 30 | 5 << 26),
    (("high", 3, 65535), 2 << 30 | 3 << 26 | 65535),
    (("high", 3, 32768), 2 << 30 | 3 << 26 | 32768),
    (("calc", "add", 1, 2, 3), 3 << 30 | 1 << 26 | 2 << 22 | 3 << 18),
    (("calc", "nor", 8, 7, 6), 3 << 30 | 8 << 26 | 7 << 22 | 6 << 18 | 16 << 13),
    (("load", 4, 16383), 4 << 30 | 4 << 26 | 16383),
    (("store", 4, 5), 5 << 30 | 4 << 26 | 5),
    (("loadx", 1, 2, 3, 4), 6 << 30 | 1 << 26 | 2 << 22 | 3 << 14 | 3),
    (("storex", 8, 0, 16320, 64), 7 << 30 | 8 << 26 | 63 << 14 | 16320),
    (("jump", 4095), 8 << 30 | 4095),
    (("jzero", 2, 4094), 9 << 30 | 2 << 26 | 4094),
    (("count", 255, 64), 10 << 30 | 255 << 22 | 63),
    (("again", 254, 7), 11 << 30 | 254 << 22 | 7),
    (("link", 9), 12 << 30 | 9),
    (("back",), 13 << 30),
    (("done",), 14 << 30),
    (("enter", 3), 15 << 30 | 3),
    (("leave", 2), 16 << 30 | 2),
    (("in", 1, 7), 17 << 30 | 1 << 26 | 7),
    (("out", 8, 6), 18 << 30 | 8 << 26 | 6),
]


def edges(name):
    """For each part of an instruction its edges and values between them."""
    found = []
    for (low, high), _, _ in FORMS[name][1]:
        found.append(CALCULATIONS if isinstance(low, str) else sorted({low, low + 1, (low + high) // 2, high}))
    return found


def fits(instruction):
    return instruction[0] not in ("loadx", "storex") or instruction[3] + instruction[4] <= 16384


def instructions():
    """Instructions with the edges of all their parts."""
    for name in FORMS:
        for values in itertools.product(*edges(name)):
            if fits((name, *values)):
                yield (name, *values)


class IsInstructionTest(unittest.TestCase):
    def good(self, *item):
        self.assertIs(is_instruction(item), True, item)

    def bad(self, *item):
        self.assertIs(is_instruction(item), False, item)
        with self.assertRaises(CodeError):
            encode(item)

    def test_document_example(self):
        self.bad("loadx", 1, 2, 16383, 2)

    def test_parts_in_range(self):
        for item in instructions():
            self.good(*item)

    def test_parts_one_beyond(self):
        for name in FORMS:
            plain = [values[0] for values in edges(name)]
            self.good(name, *plain)
            for place, ((low, high), _, _) in enumerate(FORMS[name][1]):
                if isinstance(low, int):
                    self.good(name, *plain[:place], high, *plain[place + 1:])
                    for value in (low - 1, high + 1):
                        self.bad(name, *plain[:place], value, *plain[place + 1:])

    def test_cells_beyond_the_data(self):
        for name in ("loadx", "storex"):
            for many in (1, 2, 63, 64):
                self.good(name, 1, 2, 16384 - many, many)
                self.bad(name, 1, 2, 16385 - many, many)
            self.good(name, 1, 2, 16383, 1)
            self.bad(name, 1, 2, 16384, 1)
            self.bad(name, 1, 2, 16384, 0)
        self.good("load", 1, 16383)
        self.good("store", 1, 16383)

    def test_names(self):
        for name in ("", "nop", "SET", "set ", "add", "loady", "r"):
            self.bad(name)
            self.bad(name, 1)
            self.bad(name, 1, 2)

    def test_number_of_items(self):
        for name in FORMS:
            plain = [values[0] for values in edges(name)]
            for extra in (0, 1, "add", ""):
                self.bad(name, *plain, extra)
            if plain:
                self.bad(name, *plain[:-1])
                self.bad(name, *plain[1:])
        self.bad()

    def test_kinds_of_items(self):
        self.bad(1, 2, 3)
        self.bad(0)
        for name in FORMS:
            plain = [values[0] for values in edges(name)]
            for place, value in enumerate(plain):
                for wrong in ["1", "", "r", "add"] if isinstance(value, int) else [0, 3, 16]:
                    self.bad(name, *plain[:place], wrong, *plain[place + 1:])

    def test_names_of_calculations(self):
        for name in CALCULATIONS:
            self.good("calc", name, 1, 2, 3)
        for name in ("", "+", "Add", "nand", "not", "sgt", "calc", "set"):
            self.bad("calc", name, 1, 2, 3)


class EncodeTest(unittest.TestCase):
    def test_document_example(self):
        self.assertEqual(encode(("set", 2, -1)), 1208025087)

    def test_examples(self):
        for instruction, word in EXAMPLES:
            self.assertEqual(encode(instruction), word, instruction)

    def test_indexes_of_calculations(self):
        for index, name in enumerate(CALCULATIONS):
            self.assertEqual(encode(("calc", name, 0, 0, 0)), 3 << 30 | index << 13)

    def test_order_of_opcodes(self):
        for index, name in enumerate(FORMS):
            word = encode((name, *[values[0] for values in edges(name)]))
            self.assertEqual(word >> 30, index + 1)

    def test_range(self):
        for instruction in instructions():
            word = encode(instruction)
            self.assertIs(type(word), int)
            self.assertTrue(0 <= word < 2 ** 36)

    def test_different_words(self):
        found = list(instructions())
        self.assertEqual(len({encode(instruction) for instruction in found}), len(found))

    def test_not_an_instruction(self):
        for item in ((), ("set",), ("set", 1), ("set", 9, 1), ("nop",), ("back", 0), (3, 1), ("enter", 4), ("in", 0, 8),
                     ("calc", 3, 1, 2, 3), ("set", "1", 1), ("count", 0, 0), ("loadx", 0, 0, 16321, 64)):
            with self.assertRaises(CodeError) as caught:
                encode(item)
            self.assertIs(type(caught.exception.at), int)


class DecodeTest(unittest.TestCase):
    def bad(self, word):
        with self.assertRaises(CodeError, msg=word) as caught:
            decode(word)
        self.assertIs(type(caught.exception.at), int)

    def test_document_example(self):
        self.assertEqual(decode(1208025087), ("set", 2, -1))

    def test_examples(self):
        for instruction, word in EXAMPLES:
            self.assertEqual(decode(word), instruction)

    def test_each_comes_back(self):
        for instruction in instructions():
            self.assertEqual(decode(encode(instruction)), instruction)

    def test_every_signed_number_comes_back(self):
        for n in range(-32768, 32768):
            self.assertEqual(decode(encode(("set", 1, n)))[2], n)

    def test_bits_that_must_be_zero(self):
        for instruction in instructions():
            word = encode(instruction)
            used = {bit for _, high, low in FORMS[instruction[0]][1] for bit in range(low, high + 1)}
            for bit in set(range(30)) - used:
                self.bad(word | 1 << bit)

    def test_parts_beyond_their_ranges(self):
        for name, (opcode, rows) in FORMS.items():
            plain = encode((name, *[values[0] for values in edges(name)]))
            for (least, greatest), high, low in rows:
                mask = ((1 << high - low + 1) - 1) << low
                values = len(CALCULATIONS) if isinstance(least, str) else greatest - least + 1
                for number in range(values, 1 << high - low + 1):
                    self.bad(plain & ~mask | number << low)

    def test_cells_beyond_the_data(self):
        for opcode in (6, 7):
            self.assertEqual(decode(opcode << 30 | 63 << 14 | 16320)[3:], (16320, 64))
            self.bad(opcode << 30 | 63 << 14 | 16321)
            self.bad(opcode << 30 | 1 << 14 | 16383)

    def test_opcodes(self):
        for opcode in [0, *range(19, 64)]:
            for rest in (0, 1, 1 << 26, (1 << 30) - 1):
                self.bad(opcode << 30 | rest)

    def test_outside_of_the_range(self):
        for word in (-1, -2 ** 30, -2 ** 36, 2 ** 36, 2 ** 36 - 1, 2 ** 100):
            self.bad(word)
        for _, word in EXAMPLES:
            self.bad(word + 2 ** 36)
            self.bad(word - 2 ** 36)
            self.bad(-word)

    def test_random_words(self):
        chance = random.Random(1)
        good = 0
        for _ in range(20000):
            word = chance.randrange(1, 20) << 30 | chance.getrandbits(30) & chance.getrandbits(30)
            try:
                instruction = decode(word)
            except CodeError:
                continue
            good += 1
            self.assertTrue(is_instruction(instruction))
            self.assertEqual(encode(instruction), word)
        self.assertGreater(good, 50)
