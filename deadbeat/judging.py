"""The judge of traces, which looks at the events alone."""

from deadbeat.stack import Stack
from deadbeat.waiting import Waiting

# The events of the job on top.
OF_THE_TOP = ("switch", "enter", "leave", "link", "back", "in", "out", "done")


class Limits:
    """What a trace is judged by."""

    def __init__(self, *, within, ceilings, bodies, sections, reloads):
        self.within = dict(within)
        self.ceilings = list(ceilings)
        self.bodies = dict(bodies)
        self.sections = {pair: sections[pair] for pair in sections}
        self.reloads = dict(reloads)


def judge(limits, trace):
    """The findings about a trace: tuples of a kind, the index of an event, and the number of a job or 0."""
    court = Court(limits)
    findings = []
    for at, event in enumerate(trace):
        if not court.has_form(event):
            findings.append(("form", at, _number_of(event)))
            return findings
        findings.extend([(kind, at, number) for kind, number in court.faults(event)])
        court.follow(event)
    findings.extend([("late", len(trace), number) for number in court.late_numbers()])
    return findings


def _number_of(event):
    """The number in an event, or 0 if there is none."""
    return 0 if event[0] == "idle" else event[2]


def response_times(trace):
    """Tuples of the number, the release time and the response of all jobs that end in a trace."""
    return [(event[2], event[3], event[1] - event[3]) for event in trace if event[0] == "done"]


class Running:
    """A job that has begun."""

    def __init__(self, serial, number, time):
        self.serial = serial
        self.number = number
        self.time = time
        self.preemptions = 0
        # How often it had been preempted when it entered the objects that it is in.
        self.entries = []


class Court:
    """The waiting jobs and the stack as the events say."""

    def __init__(self, limits):
        self.limits = limits
        self.waiting = Waiting()
        self.stack = Stack(limits.ceilings)
        self.jobs = []
        self.begun = 0
        self.now = None
        # The serials and the numbers of the jobs that have come to be on top, one after the other, and for each
        # number where the releases of its waiting jobs stand in between.
        self.tops = []
        self.since = {}

    def has_form(self, event):
        """Whether an event can come now."""
        if event[0] == "broken" or (self.now is not None and event[1] < self.now):
            return False
        if event[0] in OF_THE_TOP and (len(self.jobs) == 0 or self.jobs[-1].number != event[2]):
            return False
        match event[0]:
            case "begin":
                return self.is_ready(event[2]) and self.waiting.times(event[2])[0] == event[3]
            case "enter":
                return self.stack.can_enter(event[3])
            case "leave":
                return self.stack.can_leave(event[3])
            case "done":
                return self.stack.is_free() and self.jobs[-1].time == event[3]
            case _:
                return True

    def is_ready(self, number):
        """Whether a number has a waiting job and no job that has begun."""
        return len(self.waiting.times(number)) > 0 and all([job.number != number for job in self.jobs])

    def faults(self, event):
        """Pairs of a kind and a number for what is wrong about an event that can come."""
        found = []
        ready = self.waiting.highest()
        if event[0] == "idle" and (len(self.jobs) > 0 or ready > 0):
            found.append(("idle", 0))
        if self.is_ignored(event, ready):
            found.append(("ignored", ready))
        match event:
            case ("begin", _, number, _):
                if self.has_waited(number):
                    found.append(("waited", number))
            case ("leave", _, number, o, own):
                preemptions = self.jobs[-1].preemptions - self.jobs[-1].entries[-1]
                if own > self.limits.sections[(number, o)] + self.limits.reloads[number] * preemptions:
                    found.append(("long", number))
            case ("done", t, number, time, own):
                if t - time > self.limits.within[number]:
                    found.append(("late", number))
                if own > self.limits.bodies[number] + self.limits.reloads[number] * self.jobs[-1].preemptions:
                    found.append(("over", number))
        return found

    def is_ignored(self, event, ready):
        """Whether an event ignores the greatest ready number, or the level of the job on top."""
        level = self.stack.level()
        if event[0] == "begin":
            return event[2] != ready or event[2] <= level
        return event[0] != "release" and ready > level

    def has_waited(self, number):
        """Whether more than one job with a lower number has been on top since the next job of a number was released."""
        lower = [serial for serial, top in self.tops[self.since[number][0]:] if top < number]
        return len(set(lower)) > 1

    def follow(self, event):
        """Changes the waiting jobs and the stack as an event says."""
        self.now = event[1]
        match event:
            case ("release", _, number, time):
                # The job that is on top at the release is the latest one that has come there.
                self.since.setdefault(number, []).append(len(self.tops) - min(len(self.jobs), 1))
                self.waiting.arrive(number, time)
            case ("begin", _, number, time):
                self.begin_job(number, time)
            case ("enter", _, _, o):
                self.stack.enter_object(o)
                self.jobs[-1].entries.append(self.jobs[-1].preemptions)
            case ("leave", _, _, o, _):
                self.stack.leave_object(o)
                self.jobs[-1].entries.pop()
            case ("done", _, number, _, _):
                self.stack.drop()
                self.jobs.pop()
                self.waiting.end(number)
                self.note_top()

    def begin_job(self, number, time):
        """Begins a job, which preempts the one on top."""
        if len(self.jobs) > 0:
            below = self.jobs[-1]
            below.preemptions += 1
        self.waiting.begin(number)
        self.since[number].pop(0)
        self.stack.push(number)
        self.begun += 1
        self.jobs.append(Running(self.begun, number, time))
        self.note_top()

    def note_top(self):
        """Notes which job has come to be on top, if there is one."""
        if len(self.jobs) > 0:
            self.tops.append((self.jobs[-1].serial, self.jobs[-1].number))

    def late_numbers(self):
        """The numbers of the jobs that have not ended and are too late, by number and release time."""
        rows = [(job.number, job.time) for job in self.jobs]
        for number in self.since:
            rows.extend([(number, time) for time in self.waiting.times(number)])
        return [number for number, time in sorted(rows) if self.now - time > self.limits.within[number]]
