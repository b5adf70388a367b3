"""Interleavings of jobs."""

from deadbeat.errors import MixError
from deadbeat.meaning import Job, World, fresh_fields


def follow(program, jobs, inputs, record):
    """Follows a record: the final fields, the words written to each output port, the reads of each input port."""
    mix = Mix(program, jobs, inputs)
    outputs = [[] for row in program[2] if row[0] == "out"]
    reads = [0 for row in program[2] if row[0] == "in"]
    for at, entry in enumerate(record):
        if not mix.is_open(entry[0]) or mix.next_entry(entry[0]) != entry:
            raise MixError(at)
        match entry:
            case (_, "read", port, _):
                reads[port] += 1
            case (_, "write", port, word):
                outputs[port].append(word)
    return (mix.world.fields, outputs, reads)


def in_turn(program, jobs, inputs, order):
    """The record in which, for each integer of the order, the next action of that job is performed."""
    mix = Mix(program, jobs, inputs)
    record = []
    for job in order:
        if mix.is_open(job):
            record.append(mix.next_entry(job))
    return record


class Mix:
    """Jobs that are executed action by action, with what they share."""

    def __init__(self, program, jobs, inputs):
        self.world = World(program, fresh_fields(program), inputs)
        self.jobs = [Job(program, who) for who in jobs]
        self.ended = [False for _ in jobs]

    def is_open(self, job):
        """Whether there is a job with this index that is not done."""
        return 0 <= job < len(self.jobs) and not self.ended[job]

    def next_entry(self, job):
        """Performs the next action of a job that is not done. Returns its entry."""
        entry = (job,) + self.world.serve(self.jobs[job])
        self.ended[job] = entry[1] == "done"
        return entry
