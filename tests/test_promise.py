"""Point 0.16: what holds of admitted programs, sentence by sentence, in traces of runs with close releases."""

import unittest

from deadbeat.audit import audit, certify
from deadbeat.images import build, entry, routine_at
from deadbeat.judging import Limits, judge
from deadbeat.layout import find_group
from deadbeat.mixing import follow
from deadbeat.orders import ceilings, numbers
from deadbeat.reload import charge, section_reload, used_sets
from deadbeat.sections import all_routines, routine_bound, section_bounds
from tests.admitted import run, tight
from tests.certificates import forgetful, slow_costs


class World:
    """A program that is admitted by a certificate, with the bounds of its records."""

    def __init__(self, program, processor, certificate):
        self.program, self.processor = program, processor
        self.image = build(program, processor[0][2], processor[1][2])
        self.code = self.image[1]
        self.table = {row[0]: row for row in certificate[0]}
        self.slack = certificate[1][2]
        self.ceilings = ceilings(program)
        parts = program[4] + program[5]
        routines = [("task", t) for t in range(len(program[4]))] + [("interrupt", i) for i in range(len(program[5]))]
        self.who = {number: at for at, number in enumerate(numbers(program))}
        self.within = {number: parts[at][3] for number, at in self.who.items()}
        self.every = {number: parts[at][2] for number, at in self.who.items()}
        self.starts = {number: entry(self.image, routines[at]) for number, at in self.who.items()}
        self.charges = {}
        # Bounds of the sections by their "enter" addresses, with the routines in which they are.
        self.sections = {e: (bound, start) for start, row in self.table.items() for e, _, bound in section_bounds(row)}

    def body(self, number):
        return routine_bound(self.table[self.starts[number]])

    def charge(self, j, n):
        if (j, n) not in self.charges:
            self.charges[j, n] = charge(self.processor, self.code, self.table, self.starts, self.ceilings, j, n)
        return self.charges[j, n]

    def limits(self):
        """The limits of point 31.4."""
        sections = {(number, o): 0 for number in self.starts for o in range(len(self.ceilings))}
        for number, start in self.starts.items():
            for at in all_routines(self.code, [start]):
                for _, o, bound in section_bounds(self.table[at]):
                    sections[number, o] = max(sections[number, o], bound)
        reloads = {number: max([self.charge(j, number) for j in self.starts if j > number], default=0) for number in self.starts}
        return Limits(within=self.within, ceilings=self.ceilings, bodies={number: self.body(number) for number in self.starts},
                      sections=sections, reloads=reloads)

    def longest_section(self, o, preempting):
        """The greatest bound of a section in an object, with the reload costs of the numbers that preempted it."""
        return max(bound + sum(self.section_reload(start, e, j) for j in preempting)
                   for e, (bound, start) in self.sections.items() if self.code[e] == ("enter", o))

    def section_reload(self, start, e, j):
        key = (start, e, j)
        if key not in self.charges:
            sets = [used_sets(self.processor, self.code, self.table, at) for number, at in self.starts.items() if number >= j]
            code_sets = sorted({number for row in sets for number in row[0]})
            data_sets = sorted({number for row in sets for number in row[1]})
            self.charges[key] = section_reload(self.processor, self.code, self.table, start, e, code_sets, data_sets)
        return self.charges[key]


class PromiseTest(unittest.TestCase):
    def check_run(self, world, kernel, inputs, releases):
        trace = kernel.events
        self.assertFalse(kernel.broken)
        self.check_releases(world, trace, releases)
        self.check_deadlines(world, trace)
        self.check_idle(trace)
        self.check_waiting(world, trace)
        self.check_times(world, trace)
        self.check_record(world, kernel, inputs)
        self.assertEqual(judge(world.limits(), trace), [])

    def check_releases(self, world, trace, releases):
        """Point 0.15."""
        for number, times in releases.items():
            found, last = [], None
            for time in sorted(times):
                if last is None or time - last >= world.every[number]:
                    found.append(time)
                    last = time
            self.assertEqual([event[3] for event in trace if event[0] == "release" and event[2] == number], found)

    def check_deadlines(self, world, trace):
        """Every job ends in time."""
        ended = [(event[2], event[3]) for event in trace if event[0] == "done"]
        self.assertEqual(sorted(ended), sorted(event[2:4] for event in trace if event[0] == "release"))
        for event in trace:
            if event[0] == "done":
                self.assertLessEqual(event[1] - event[3], world.within[event[2]])

    def check_idle(self, trace):
        """No time passes without an act while a job is waiting or begun."""
        open_jobs, now = 0, 0
        for event in trace:
            if event[0] == "idle":
                self.assertEqual(open_jobs, 0)
                self.assertGreater(event[1], now)
            open_jobs += {"release": 1, "done": -1}.get(event[0], 0)
            now = event[1]

    def check_waiting(self, world, trace):
        """No job waits for lower ones but for one, before it begins, and while that one's level is high enough."""
        stack, waiting = [], {}
        for at, event in enumerate(trace):
            kind, now, number = (event + (0,))[:3]
            level = max([stack[-1]["number"]] + [world.ceilings[o] for o in stack[-1]["inside"]]) if stack else 0
            if kind not in ("release", "begin", "idle"):
                # Only the job on top does anything; those below it have lower numbers.
                self.assertEqual(stack[-1]["number"], number)
                for key, lower in waiting.items():
                    if number < key[0]:
                        self.assertGreaterEqual(level, key[0])
                        lower.add(stack[-1]["at"])
                        self.assertEqual(len(lower), 1)
            if kind == "release":
                waiting[number, event[3]] = set()
                before = [row for row in trace[:at] if row[1] > event[3] and row[0] not in ("release", "begin")]
                self.assertLessEqual(len(before), 1)
            elif kind == "begin":
                self.assertGreater(number, level)
                del waiting[number, event[3]]
                stack.append({"number": number, "inside": [], "at": at})
            elif kind == "enter":
                stack[-1]["inside"].append(event[3])
            elif kind == "leave":
                stack[-1]["inside"].pop()
            elif kind == "done":
                stack.pop()

    def check_times(self, world, trace):
        """Own times of jobs and sections, with the reload cost of each preemption by the number that preempts."""
        stack = []
        for event in trace:
            if event[0] == "begin":
                if stack:
                    stack[-1]["preempting"].append(event[2])
                stack.append({"preempting": [], "entries": []})
            elif event[0] == "enter":
                stack[-1]["entries"].append(len(stack[-1]["preempting"]))
            elif event[0] == "leave":
                since = stack[-1]["entries"].pop()
                self.assertLessEqual(event[4], world.longest_section(event[3], stack[-1]["preempting"][since:]))
            elif event[0] == "done":
                number = event[2]
                cost = sum(world.charge(j, number) for j in stack.pop()["preempting"])
                self.assertLessEqual(event[4], world.body(number) + cost)

    def check_record(self, world, kernel, inputs):
        """What the trace shows is an interleaving of the jobs, which leads to the same fields and outputs."""
        jobs, stack, record = [], [], []
        for event in kernel.events:
            if event[0] == "begin":
                stack.append({"job": len(jobs), "calls": []})
                jobs.append(world.who[event[2]])
                continue
            if not stack or event[0] in ("release", "idle"):
                continue
            job = stack[-1]
            if event[0] == "link":
                job["calls"].append(event[4])
            elif event[0] == "back":
                given = job["calls"].pop()
                if not job["calls"]:
                    _, o, k = routine_at(world.image, event[3])
                    has_result = world.program[3][o][3][k][5] is not None
                    record.append((job["job"], "call", o, k, given, event[4][0] if has_result else 0))
            elif event[0] in ("in", "out"):
                record.append((job["job"], {"in": "read", "out": "write"}[event[0]], event[3], event[4]))
            elif event[0] == "done":
                record.append((stack.pop()["job"], "done"))
        fields, outputs, _ = follow(world.program, jobs, inputs, record)
        self.assertEqual(fields, self.fields(world, kernel.board.data))
        self.assertEqual(outputs, kernel.board.outputs[:len(outputs)])

    def fields(self, world, data):
        """The fields as they lie in the data."""
        found = []
        for o in range(len(world.program[3])):
            cells = find_group(world.image[3], ("object", o))[3]
            found.append([data[at:at + max(size, 1)] for _, at, size in cells])
        return found

    def check_world(self, world, seed, seen):
        for aimed in (False, True):
            kernel, inputs, releases = run(world.program, world.processor, seed, aimed=aimed)
            self.check_run(world, kernel, inputs, releases)
            for event in kernel.events:
                seen[event[0]] = seen.get(event[0], 0) + 1

    def test_admitted_programs(self):
        seen = {}
        for seed in range(30):
            found = tight(seed)
            if found:
                certificate = certify(*found)
                self.assertTrue(audit(*found, certificate))
                self.check_world(World(*found, certificate), seed, seen)
        # Jobs that go on after a preemption.
        self.assertGreater(seen["switch"] - seen["done"], 40)
        self.assertGreater(min(seen.values()), 40)

    def test_programs_with_another_certificate(self):
        """The certificate takes every access for a miss, and knows no lines; the deadlines fit to it."""
        seen, runs = {}, 0
        for seed in range(100, 116):
            found = tight(seed, slow=slow_costs)
            if found:
                program, processor = found
                slow = (*processor[:2], slow_costs(processor[2]))
                rows, verdict = certify(program, slow)
                rows = [(start, last, forgetful(claims), [(e, o, forgetful(inner)) for e, o, inner in sections])
                        for start, last, claims, sections in rows]
                self.assertTrue(audit(program, processor, (rows, verdict)))
                self.check_world(World(program, processor, (rows, verdict)), seed, seen)
                runs += (rows, verdict) != certify(program, processor)
        self.assertGreater(runs, 9)

    def test_tight_programs_need_their_deadlines(self):
        """Some responses come close to their bounds, so that the tests above say something."""
        close = 0
        for seed in range(6):
            program, processor = tight(seed)
            bounds = {row[0]: row[4] for row in certify(program, processor)[1][3]}
            for number in range(6):
                kernel, _, _ = run(program, processor, seed * 10 + number)
                close += sum(2 * (event[1] - event[3]) > bounds[event[2]] for event in kernel.events if event[0] == "done")
        self.assertGreater(close, 20)


if __name__ == "__main__":
    unittest.main()
