import copy
import random
import unittest

from deadbeat.errors import MixError
from deadbeat.meaning import fresh_fields, run_alone
from deadbeat.mixing import follow, in_turn
from tests import oracle
from tests.programs import ValidMaker, cell, interrupt, num, operation, put, shared, system, task


def bank():
    """Tasks and interrupts that share an object, with two input and two output ports."""
    add = operation("add", ["n"], [], [put("t", ("+", cell("t"), cell("n")))], cell("t"))
    twice = operation("twice", ["x", "y"], [], [put("t", ("+", cell("t"), ("*", cell("x"), cell("y"))))])
    pass_on = [("read", cell("v"), "b"), ("call", cell("v"), "o", "add", [cell("v")]), ("write", "q", cell("v"))]
    both = [("read", cell("v"), "a"), ("read", cell("w"), "b"), ("write", "p", ("+", cell("v"), cell("w"))),
            ("call", None, "o", "twice", [cell("v"), cell("w")])]
    return system(
        ports=[("out", "p"), ("in", "a"), ("in", "b"), ("out", "q")],
        objects=[shared("o", [("t", 0)], [add, twice])],
        tasks=[task("t", pass_on, [("v", 0)]), task("u", both, [("v", 0), ("w", 0)]), task("idle")],
        interrupts=[interrupt("k", "o", "add", [100]), interrupt("l", "o", "twice", [2, 3])])


INPUTS = [[7, 8], [1, 2, 3]]
# Jobs of the tasks 0, 0 and 1, and of the interrupts.
JOBS = [0, 0, 1, 3, 4]
RECORD = [
    (1, "read", 1, 1),
    (2, "read", 0, 7),
    (0, "read", 1, 2),
    (3, "call", 0, 0, [100], 100),
    (0, "call", 0, 0, [2], 102),
    (2, "read", 1, 3),
    (1, "call", 0, 0, [1], 103),
    (4, "call", 0, 1, [2, 3], 0),
    (4, "done"),
    (2, "write", 0, 10),
    (1, "write", 1, 103),
    (2, "call", 0, 1, [7, 3], 0),
    (1, "done"),
    (0, "write", 1, 102),
    (2, "done"),
    (0, "done"),
    (3, "done"),
]


class MixTest(unittest.TestCase):
    def follows(self, record, fields, outputs, reads, *, jobs=JOBS, inputs=INPUTS):
        found = follow(bank(), jobs, inputs, record)
        self.assertIs(type(found), tuple)
        self.assertEqual(found, (fields, outputs, reads))

    def fails(self, record, index, *, jobs=JOBS, inputs=INPUTS, program=None):
        with self.assertRaises(MixError) as caught:
            follow(program or bank(), jobs, inputs, record)
        self.assertEqual(caught.exception.at, index)


class FollowTest(MixTest):
    def test_empty_record(self):
        self.follows([], [[[0]]], [[], []], [0, 0])
        self.follows([], [[[0]]], [[], []], [0, 0], jobs=[])
        self.assertEqual(follow(system(), [], [], []), ([], [], []))
        self.assertEqual(follow(system(ports=[("out", "p")] * 3), [], [], []), ([], [[], [], []], []))

    def test_whole_record(self):
        self.follows(RECORD, [[[130]]], [[10], [103, 102]], [1, 3])

    def test_records_that_stop_early(self):
        fields = [0, 0, 0, 0, 100, 102, 102, 103, 109, 109, 109, 109, 130, 130, 130, 130, 130, 130]
        for many in range(len(RECORD) + 1):
            entries = RECORD[:many]
            outputs = [[row[3] for row in entries if row[1:3] == ("write", port)] for port in range(2)]
            reads = [len([row for row in entries if row[1:3] == ("read", port)]) for port in range(2)]
            self.follows(entries, [[[fields[many]]]], outputs, reads)

    def test_another_order_of_the_same_jobs(self):
        record = [
            (0, "read", 1, 1), (0, "call", 0, 0, [1], 1), (0, "write", 1, 1), (0, "done"),
            (1, "read", 1, 2), (1, "call", 0, 0, [2], 3), (1, "write", 1, 3), (1, "done"),
            (3, "call", 0, 0, [100], 103), (3, "done"),
        ]
        self.follows(record, [[[103]]], [[], [1, 3]], [0, 2])

    def test_jobs_of_one_task_alone(self):
        record = [(1, "read", 1, 1), (0, "read", 1, 2), (1, "call", 0, 0, [1], 1), (0, "call", 0, 0, [2], 3),
                  (0, "write", 1, 3), (1, "write", 1, 1)]
        self.follows(record, [[[3]]], [[], [3, 1]], [0, 2], jobs=[0, 0])

    def test_words_that_are_read_after_the_last_one(self):
        record = [(0, "read", 1, 9), (1, "read", 1, 0), (2, "read", 0, 0), (2, "read", 1, 0), (2, "write", 0, 0)]
        self.follows(record, [[[0]]], [[0], []], [1, 3], inputs=[[], [9]])
        self.fails([(0, "read", 1, 9), (1, "read", 1, 9)], 1, inputs=[[], [9]])
        self.fails([(0, "read", 1, 1)], 0, inputs=[[5], []])

    def test_a_job_that_has_nothing_to_do(self):
        self.follows([(0, "done"), (1, "done")], [[[0]]], [[], []], [0, 0], jobs=[2, 2])

    def test_results_share_no_list(self):
        program, inputs, record = bank(), copy.deepcopy(INPUTS), copy.deepcopy(RECORD)
        fields, outputs, reads = follow(program, JOBS, inputs, record)
        self.assertEqual((program, inputs, record), (bank(), INPUTS, RECORD))
        fields[0][0][0] = 5
        outputs[0].append(5)
        outputs[1].clear()
        reads.clear()
        self.assertEqual((program, inputs, record), (bank(), INPUTS, RECORD))
        self.assertEqual(follow(program, JOBS, inputs, record), ([[[130]]], [[10], [103, 102]], [1, 3]))


class WrongRecordTest(MixTest):
    def replaced(self, index, *entries):
        """Checks that the record fails where an entry is replaced by another one, and nowhere before."""
        for entry in entries:
            self.fails(RECORD[:index] + [entry] + RECORD[index + 1:], index)
            self.fails(RECORD[:index] + [entry], index)

    def test_wrong_reads(self):
        self.replaced(0, (1, "read", 0, 1), (1, "read", 1, 2), (1, "read", 1, 0), (1, "read", 0, 7),
                      (1, "read", 2, 1), (1, "read", -1, 1))
        self.replaced(1, (2, "read", 1, 7), (2, "read", 0, 8), (2, "read", 1, 2))

    def test_wrong_writes(self):
        self.replaced(9, (2, "write", 1, 10), (2, "write", 0, 11), (2, "write", -2, 10), (2, "write", 9, 10))

    def test_wrong_calls(self):
        self.replaced(4, (0, "call", 1, 0, [2], 102), (0, "call", -1, 0, [2], 102), (0, "call", 0, 1, [2], 102),
                      (0, "call", 0, -2, [2], 102), (0, "call", 0, 0, [3], 103), (0, "call", 0, 0, [3], 102),
                      (0, "call", 0, 0, [], 102), (0, "call", 0, 0, [2, 2], 102), (0, "call", 0, 0, [2], 2),
                      (0, "call", 0, 0, [2], 101), (0, "call", 0, 0, [2], 0))
        self.replaced(7, (4, "call", 0, 1, [2, 3], 6), (4, "call", 0, 1, [3, 2], 0), (4, "call", 0, 0, [2, 3], 0))
        self.replaced(3, (3, "call", 0, 0, [100], 0), (3, "call", 0, 0, [99], 99))

    def test_wrong_kinds(self):
        read, write, call, done = ("read", 1, 1), ("write", 1, 1), ("call", 0, 0, [1], 1), ("done",)
        self.replaced(0, (1, *write), (1, *call), (1, *done))
        self.replaced(6, (1, *read), (1, *write), (1, *done))
        self.replaced(10, (1, *read), (1, *call), (1, *done), (1, "read", 1, 103))
        self.replaced(12, (1, *read), (1, *write), (1, *call))
        self.replaced(16, (3, *call), (3, "call", 0, 0, [100], 230), (3, *write))

    def test_entry_of_another_job(self):
        self.replaced(0, (2, "read", 1, 1), (3, "read", 1, 1), (4, "read", 1, 1))
        self.replaced(3, (4, "call", 0, 0, [100], 100), (0, "call", 0, 0, [100], 100))
        self.replaced(4, (1, "call", 0, 0, [2], 102))

    def test_entries_after_done(self):
        for entry in ((4, "done"), (4, "call", 0, 1, [2, 3], 0), (4, "read", 0, 8), (4, "write", 0, 0)):
            self.fails(RECORD[:9] + [entry] + RECORD[9:], 9)
            self.fails(RECORD + [entry], len(RECORD))
        for job in range(5):
            self.fails(RECORD + [(job, "done")], len(RECORD))
        self.fails([(0, "done"), (0, "done")], 1, jobs=[2])

    def test_jobs_that_are_not_in_the_list(self):
        for job in (-1, -2, -3, -5, -6, 5, 6, 100):
            self.replaced(0, (job, "read", 1, 1), (job, "done"))
            self.replaced(8, (job, "done"))
            self.fails(RECORD + [(job, "done")], len(RECORD))
        self.fails([(0, "done")], 0, jobs=[])
        self.fails([(-1, "done")], 0, jobs=[2])
        self.fails([(1, "done")], 0, jobs=[2])

    def test_missing_entries(self):
        self.fails(RECORD[1:], 1)
        self.fails(RECORD[:4] + RECORD[5:], 5)
        self.fails(RECORD[:3] + RECORD[4:], 3)

    def test_the_order_of_effects(self):
        record = list(RECORD)
        record[3], record[4] = record[4], record[3]
        self.fails(record, 3)
        record = list(RECORD)
        record[0], record[2] = record[2], record[0]
        self.fails(record, 0)


class InTurnTest(MixTest):
    def test_order_of_the_record(self):
        order = [entry[0] for entry in RECORD]
        self.assertEqual(in_turn(bank(), JOBS, INPUTS, order), RECORD)
        for many in range(len(order)):
            self.assertEqual(in_turn(bank(), JOBS, INPUTS, order[:many]), RECORD[:many])

    def test_nothing(self):
        self.assertEqual(in_turn(bank(), JOBS, INPUTS, []), [])
        self.assertEqual(in_turn(bank(), [], INPUTS, []), [])

    def test_a_job_that_is_done(self):
        order = [3, 3, 3, 4, 3, 4, 4, 4, 3]
        record = in_turn(bank(), JOBS, INPUTS, order)
        self.assertEqual(record, [
            (3, "call", 0, 0, [100], 100), (3, "done"), (4, "call", 0, 1, [2, 3], 0), (4, "done")])
        self.follows(record, [[[106]]], [[], []], [0, 0])
        self.assertEqual(in_turn(bank(), [2, 2], INPUTS, [1, 1, 0, 1, 0]), [(1, "done"), (0, "done")])
        order = [entry[0] for entry in RECORD] + [4, 3, 2, 1, 0] * 2
        self.assertEqual(in_turn(bank(), JOBS, INPUTS, order), RECORD)

    def test_one_job_as_alone(self):
        for who in range(5):
            actions, fields, left = run_alone(bank(), who, [[[0]]], INPUTS)
            record = in_turn(bank(), [who], INPUTS, [0] * 10)
            self.assertEqual(record, [(0, *action) for action in actions])
            found = follow(bank(), [who], INPUTS, record)
            self.assertEqual((found[0], found[2]), (fields, [2 - len(left[0]), 3 - len(left[1])]))

    def test_words_after_the_last_one(self):
        record = in_turn(bank(), [0, 1], [[], [4]], [1, 0, 1, 1, 1])
        self.assertEqual(record, [(1, "read", 0, 0), (0, "read", 1, 4), (1, "read", 1, 0), (1, "write", 0, 0),
                                  (1, "call", 0, 1, [0, 0], 0)])
        self.follows(record, [[[0]]], [[0], []], [1, 2], jobs=[0, 1], inputs=[[], [4]])

    def test_results_share_no_list(self):
        program, inputs, order = bank(), copy.deepcopy(INPUTS), [entry[0] for entry in RECORD]
        record = in_turn(program, JOBS, inputs, order)
        for entry in record:
            if entry[1] == "call":
                entry[4].append(7)
        record.clear()
        self.assertEqual((program, inputs, order), (bank(), INPUTS, [entry[0] for entry in RECORD]))
        self.assertEqual(in_turn(program, JOBS, inputs, order), RECORD)

    def test_interrupts_keep_their_words(self):
        program = bank()
        record = in_turn(program, [3, 3], INPUTS, [0, 1])
        record[0][4].append(5)
        self.assertEqual(record[1], (1, "call", 0, 0, [100], 200))
        self.assertEqual(program, bank())


class RandomTest(MixTest):
    def test_many_orders(self):
        """Compares random orders of the jobs of random programs with another execution of them."""
        entries = 0
        for seed in range(400):
            maker = ValidMaker(seed)
            program, chance = maker.program(), random.Random(seed)
            inputs = maker.inputs(program)
            whos = range(len(program[4]) + len(program[5]))
            jobs = [chance.choice(whos) for _ in range(chance.randrange(1, 7))]
            order = [chance.randrange(len(jobs)) for _ in range(chance.choice([5, 20, 100, 300]))]
            run = oracle.Run(program, jobs, inputs)
            for job in order:
                run.go_on(job)
            before = copy.deepcopy((program, jobs, inputs, order))
            record = in_turn(program, jobs, inputs, order)
            self.assertEqual(record, run.record)
            self.assertEqual(follow(program, jobs, inputs, record), (run.fields, run.outputs, run.reads))
            self.assertEqual((program, jobs, inputs, order), before)
            entries += len(record)
            if record:
                at = chance.randrange(len(record))
                self.fails(record[:at] + [wrong(record[at], chance)] + record[at + 1:], at, jobs=jobs, inputs=inputs,
                           program=program)
        self.assertGreater(entries, 1000)

    def test_orders_do_not_matter_to_a_job_without_calls(self):
        program = system(ports=[("out", "p")], tasks=[task("t", [("write", "p", num(n)) for n in range(3)])])
        for seed in range(20):
            order = [0] * 4 + [1] * 4
            random.Random(seed).shuffle(order)
            record = in_turn(program, [0, 0], [], order)
            fields, outputs, reads = follow(program, [0, 0], [], record)
            self.assertEqual((fields, sorted(outputs[0]), reads), (fresh_fields(program), [0, 0, 1, 1, 2, 2], []))


def wrong(entry, chance):
    """An entry that differs from a given one in one item."""
    if entry[1] == "done":
        return (entry[0], "write", 0, 1)
    changed = list(entry)
    place = chance.randrange(2, len(entry))
    changed[place] = changed[place] + [1] if isinstance(changed[place], list) else changed[place] + 1
    return tuple(changed)
