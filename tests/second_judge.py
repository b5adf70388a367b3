"""A second judge with which the program's own one is compared. It looks back over the whole trace for each question."""


class Past:
    """What the first events of a trace say."""

    def __init__(self, trace):
        self.trace = trace
        # Releases and jobs are known by the indexes of their events "release" and "begin".
        self.queues, self.jobs, self.tops = {}, [], []
        for at, event in enumerate(trace):
            self.add(at, event)
            self.tops.append(self.jobs[-1]["at"] if self.jobs else None)

    def add(self, at, event):
        if event[0] == "release":
            self.queues.setdefault(event[2], []).append(at)
        elif event[0] == "begin":
            self.queues[event[2]].pop(0)
            self.jobs.append({"at": at, "number": event[2], "time": event[3], "inside": []})
        elif event[0] == "enter":
            self.jobs[-1]["inside"].append((event[3], at))
        elif event[0] == "leave":
            self.jobs[-1]["inside"].pop()
        elif event[0] == "done":
            self.jobs.pop()

    def ready(self):
        begun = [job["number"] for job in self.jobs]
        return [number for number, rows in self.queues.items() if rows and number not in begun]

    def level(self, ceilings):
        if not self.jobs:
            return 0
        return max([self.jobs[-1]["number"]] + [ceilings[o] for o, _ in self.jobs[-1]["inside"]])

    def preemptions(self, since):
        """How often the job on top has been preempted behind an event."""
        job = self.jobs[-1]["at"]
        return sum(self.trace[at][0] == "begin" and self.tops[at - 1] == job for at in range(since + 1, len(self.trace)))

    def lower(self, number):
        """The jobs with lower numbers that have been on top since the release of the first waiting job of a number."""
        released = self.queues[number][0]
        tops = self.tops[max(released - 1, 0):] if released else self.tops
        return {at for at in tops if at is not None and self.trace[at][2] < number}


def is_form_broken(past, limits, event):
    trace = past.trace
    kind, now, *rest = event
    if kind == "broken" or trace and now < trace[-1][1]:
        return True
    if kind == "begin":
        number, time = rest
        return number not in past.ready() or trace[past.queues[number][0]][3] != time
    if kind in ("idle", "release"):
        return False
    if not past.jobs or past.jobs[-1]["number"] != rest[0]:
        return True
    inside = past.jobs[-1]["inside"]
    if kind == "enter":
        return rest[1] in [o for job in past.jobs for o, _ in job["inside"]] or rest[1] not in range(len(limits.ceilings))
    if kind == "leave":
        return not inside or inside[-1][0] != rest[1]
    return kind == "done" and (inside != [] or past.jobs[-1]["time"] != rest[1])


def second_judge(limits, trace):
    findings = []
    for at, event in enumerate(trace):
        past = Past(trace[:at])
        number = event[2] if len(event) > 2 else 0
        if is_form_broken(past, limits, event):
            return findings + [("form", at, number)]
        kind, now = event[:2]
        ready, level = past.ready(), past.level(limits.ceilings)
        greatest = max(ready, default=0)
        if kind == "idle" and (past.jobs or ready):
            findings.append(("idle", at, 0))
        if kind == "begin" and (number != greatest or number <= level):
            findings.append(("ignored", at, greatest))
        if kind not in ("begin", "release") and greatest > level:
            findings.append(("ignored", at, greatest))
        if kind == "begin" and len(past.lower(number)) > 1:
            findings.append(("waited", at, number))
        if kind == "done" and now - event[3] > limits.within[number]:
            findings.append(("late", at, number))
        if kind == "leave":
            o, entered = past.jobs[-1]["inside"][-1]
            if event[4] > limits.sections[number, o] + limits.reloads[number] * past.preemptions(entered):
                findings.append(("long", at, number))
        if kind == "done":
            if event[4] > limits.bodies[number] + limits.reloads[number] * past.preemptions(past.jobs[-1]["at"]):
                findings.append(("over", at, number))
    past = Past(trace)
    open_jobs = [(job["number"], job["time"]) for job in past.jobs]
    open_jobs += [(number, trace[at][3]) for number, rows in past.queues.items() for at in rows]
    for number, time in sorted(open_jobs):
        if trace[-1][1] - time > limits.within[number]:
            findings.append(("late", len(trace), number))
    return findings
