"""A second kernel with which the program's own one is compared. It keeps plain lists and asks each question anew."""

from tests.machine import Lines, Machine


class SecondKernel:
    def __init__(self, *, code, starts, ceilings, watches, costs, caches, inputs, releases):
        """`caches` are pairs of a shape and contents, `releases` a dict from numbers to accepted times."""
        self.machine = Machine(costs, code, *[Lines(shape, rows) for shape, rows in caches], inputs)
        self.starts, self.ceilings, self.watches, self.costs = starts, ceilings, watches, costs
        self.coming = [(time, number) for number, times in releases.items() for time in times]
        self.queues = {number: [] for number in range(1, 11)}
        self.jobs, self.events = [], []
        self.now = self.last = 0
        self.broken = False

    def level(self):
        if not self.jobs:
            return 0
        return max([self.jobs[-1]["number"]] + [self.ceilings[o] for o, _ in self.jobs[-1]["inside"]])

    def ready(self):
        begun = [job["number"] for job in self.jobs]
        return max([number for number, times in self.queues.items() if times and number not in begun] + [0])

    def say(self, kind, *items):
        self.events.append((kind, self.now) + items)
        return True

    def advance(self):
        if self.broken:
            return False
        due = [row for row in self.coming if row[0] <= self.now]
        if due:
            time, number = min(due)
            self.coming.remove((time, number))
            self.now += self.costs.release
            self.queues[number].append(time)
            return self.say("release", number, time)
        number = self.ready()
        if number > self.level():
            time = self.queues[number].pop(0)
            self.jobs.append({"number": number, "time": time, "at": self.starts[number], "registers": [0] * 9, "own": 0,
                              "inside": [], "links": []})
            return self.say("begin", number, time)
        if not self.jobs:
            if not self.coming:
                return False
            self.now = min(self.coming)[0]
            return self.say("idle")
        job = self.jobs[-1]
        if job["number"] != self.last:
            self.last = job["number"]
            self.now += self.costs.switch
            return self.say("switch", self.last)
        return self.instruction(job)

    def instruction(self, job):
        self.machine.at, self.machine.registers = job["at"], job["registers"]
        cost, row = self.machine.step()
        job["at"] = self.machine.at
        entered = [o for other in self.jobs for o, _ in other["inside"]]
        name = None if row is None else row[0]
        fails = row is None or name == "done" and job["inside"] != []
        fails = fails or name == "enter" and (row[1] in entered or row[1] not in range(len(self.ceilings)))
        fails = fails or name == "leave" and (job["inside"] == [] or job["inside"][-1][0] != row[1])
        if not fails:
            cost += {"enter": self.costs.enter, "leave": self.costs.leave, "done": self.costs.finish}.get(name, 0)
        self.now += cost
        job["own"] += cost
        if fails:
            self.broken = True
            return self.say("broken", job["number"])
        self.effects(job, name, row)
        return True

    def words(self, p, which):
        return [self.machine.data[at] for at in self.watches[p][which]] if p in self.watches else []

    def effects(self, job, name, row):
        number = job["number"]
        if name == "enter":
            job["inside"].append((row[1], job["own"]))
            self.say(name, number, row[1])
        elif name == "leave":
            o, begun = job["inside"].pop()
            self.say(name, number, o, job["own"] - begun)
        elif name == "link":
            job["links"].append(row[1])
            self.say(name, number, row[1], self.words(row[1], 0))
        elif name == "back":
            p = job["links"].pop() if job["links"] else None
            self.say(name, number, p, self.words(p, 1))
        elif name in ("in", "out"):
            self.say(name, number, row[2], job["registers"][row[1]])
        elif name == "done":
            self.jobs.pop()
            self.say(name, number, job["time"], job["own"])
