"""Admitted programs whose deadlines are short, and runs of them with releases that are as close as allowed."""

import random

from deadbeat.admit import admission
from deadbeat.caches import Cache
from deadbeat.images import build
from deadbeat.orders import numbers
from deadbeat.rules import check
from deadbeat.system import System, load
from tests.programs import ValidMaker, system
from tests.test_must import random_processor

LONGEST = 4194304


def with_times(program, times):
    """The program with other pairs of `every` and `within` for its tasks and interrupts."""
    tag, name, ports, objects, tasks, interrupts = program
    rows = [row[:2] + times[at] + row[4:] for at, row in enumerate(tasks + interrupts)]
    return (tag, name, ports, objects, rows[:len(tasks)], rows[len(tasks):])


class BusyMaker(ValidMaker):
    """Makes programs with two or more objects and tasks, which call their objects often."""

    def statement(self, own, scope, lists, loops, rounds):
        if self.random.random() < 0.4:
            return self.call(own, scope)
        return super().statement(own, scope, lists, loops, rounds)

    def program(self):
        self.ports = [(kind, self.name()) for kind in ("in", "out", "out")]
        for own in range(self.random.randrange(2, 5) - 1, -1, -1):
            self.objects.insert(0, (own, self.shared(own)))
        tasks = [self.task() for _ in range(self.random.randrange(2, 9))]
        interrupts = [self.interrupt() for _ in range(self.many(2))] if self.callees(-1) else []
        return system(name=self.name(), ports=self.ports, objects=[thing for _, thing in self.objects], tasks=tasks,
                      interrupts=interrupts)


def tight(seed, slow=lambda costs: costs):
    """A pair of an admitted program with short deadlines and a processor, or None for a great program.

    The deadlines fit to the processor with other costs, if these are given.
    """
    chance = random.Random(seed)
    program, processor = BusyMaker(seed).program(), random_processor(chance)
    if len(build(program, 1, 1)[1]) > 1500:
        return None
    judged = (*processor[:2], slow(processor[2]))
    many = len(program[4] + program[5])
    program = with_times(program, [(LONGEST, LONGEST - chance.randrange(9)) for _ in range(many)])
    verdict = admission(program, judged)
    for _ in range(12):
        # Deadlines near the responses, and releases that are close to them.
        times = []
        for (_, _, _, _, response), row in zip(verdict[3], program[4] + program[5]):
            within = max(response, min(row[3], response * chance.choice([10, 11, 13, 20]) // 10))
            times.append((min(row[2], max(within, within * chance.choice([10, 10, 15, 30, 60]) // 10)), within))
        closer = with_times(program, times)
        found = admission(closer, judged)
        if found[1]:
            program, verdict = closer, found
    check(program)
    return program, processor


def contents(chance, shape):
    """A cache with random contents."""
    cache = Cache(*shape)
    cache.fill([chance.sample([number + cache.sets * k for k in range(30)], chance.randrange(cache.ways + 1))
                for number in range(cache.sets)])
    return cache


def close_releases(chance, program, many):
    """Releases by numbers that are as close as allowed, nearly so, or closer, so that some are ignored."""
    found = {}
    rows = sorted(zip(numbers(program), [row[2:4] for row in program[4] + program[5]]))
    # Greater numbers come while lower ones run, or all at the same time.
    spread = chance.choice([0, 30, 300, 1000, rows[0][1][1] if rows else 0])
    for number, (every, _) in rows:
        time = chance.randrange(spread + 1) if number > 1 else 0
        found[number] = []
        for _ in range(chance.randrange(many + 1)):
            found[number].append(time)
            time += chance.choice([every, every, every, every + chance.randrange(spread + 1), every - 1])
    return found


def aimed_releases(chance, program, ready, inputs, many):
    """Releases by numbers, each of which comes while a lower number runs, where it is in an object if possible."""
    found = {}
    for number, every in sorted(zip(numbers(program), [row[2] for row in program[4] + program[5]])):
        trace = ready.run(found, inputs, LONGEST).events
        inner = [event[1] for event in trace if event[0] in ("enter", "link", "back")]
        others = [event[1] for event in trace]
        wanted = sorted(max(0, chance.choice(chance.choice([inner, inner, others]) or [0]) + chance.randrange(-30, 30))
                        for _ in range(3 * many))
        found[number] = []
        for time in wanted:
            if len(found[number]) < many and (not found[number] or time >= found[number][-1] + every):
                found[number].append(time)
    return found


def run(program, processor, seed, many=6, aimed=False, horizon=LONGEST * 100):
    """A run with random inputs and contents of the caches: the kernel, the inputs and the releases."""
    chance = random.Random(seed)
    loaded = load(program, processor)
    ready = System(setup=loaded.setup, every=loaded.every, code_cache=contents(chance, processor[0]),
                   data_cache=contents(chance, processor[1]))
    inputs = [[chance.randrange(100) for _ in range(chance.randrange(30))] for kind, _ in program[2] if kind == "in"]
    releases = aimed_releases(chance, program, ready, inputs, many) if aimed else close_releases(chance, program, many)
    return ready.run(releases, inputs, horizon), inputs, releases
