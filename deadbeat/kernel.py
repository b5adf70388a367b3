"""The kernel, which runs jobs on the processor."""

from deadbeat.cpu import Core, step
from deadbeat.stack import Stack
from deadbeat.waiting import Waiting


class Setup:
    """What does not change while a kernel runs."""

    def __init__(self, *, code, starts, ceilings, watches, costs):
        self.code = list(code)
        self.starts = dict(starts)
        self.ceilings = list(ceilings)
        self.watches = {p: (list(given), list(left)) for p, (given, left) in watches.items()}
        self.costs = costs


class Begun:
    """A job that has begun."""

    def __init__(self, number, time, at):
        self.number = number
        self.time = time
        self.core = Core(at)
        self.own_time = 0
        # The own times at which it entered the objects that it is in, and the calls that have not come back.
        self.entries = []
        self.calls = []


class Kernel:
    """A kernel that runs jobs as releases come."""

    def __init__(self, setup, board, timeline):
        self.setup = setup
        self.board = board
        self.timeline = timeline
        self.now = 0
        self.last = 0
        self.stack = Stack(setup.ceilings)
        self.jobs = []
        self.waiting = Waiting()
        self.events = []
        self.broken = False

    def advance(self):
        """Does the next thing and returns True, or returns False if the kernel has stopped."""
        if self.broken:
            return False
        coming = self.timeline.next_time()
        if coming is not None and coming <= self.now:
            self.take_release()
        elif self.waiting.highest() > self.stack.level():
            self.begin_job(self.waiting.highest())
        elif len(self.jobs) > 0:
            self.go_on(self.jobs[-1])
        elif coming is None:
            return False
        else:
            self.now = coming
            self.tell("idle")
        return True

    def tell(self, kind, *rest):
        """Adds an event at the current time."""
        self.events.append((kind, self.now, *rest))

    def take_release(self):
        """Takes a release."""
        time, number = self.timeline.take()
        self.now += self.setup.costs.release
        self.waiting.arrive(number, time)
        self.tell("release", number, time)

    def begin_job(self, number):
        """Begins a job of a ready number."""
        time = self.waiting.begin(number)
        self.jobs.append(Begun(number, time, self.setup.starts[number]))
        self.stack.push(number)
        self.tell("begin", number, time)

    def go_on(self, job):
        """Switches to the job on top, or lets it execute an instruction if it ran last."""
        if job.number == self.last:
            self.execute(job)
            return
        self.now += self.setup.costs.switch
        self.last = job.number
        self.tell("switch", job.number)

    def execute(self, job):
        """Lets the job on top execute an instruction."""
        cost, instruction = step(self.setup.costs, self.setup.code, job.core, self.board)
        self.spend(job, cost)
        if instruction is None:
            self.give_up(job)
            return
        match instruction[0]:
            case "enter":
                self.enter_object(job, instruction[1])
            case "leave":
                self.leave_object(job, instruction[1])
            case "done":
                self.end_job(job)
            case "link":
                job.calls.append(instruction[1])
                self.tell("link", job.number, instruction[1], self.watched(instruction[1], 0))
            case "back":
                self.come_back(job)
            case "in" | "out":
                name, r, q = instruction
                self.tell(name, job.number, q, job.core.registers[r])

    def spend(self, job, cost):
        """Lets time pass for the job on top."""
        self.now += cost
        job.own_time += cost

    def give_up(self, job):
        """Stops for good, because the job on top cannot go on."""
        self.broken = True
        self.tell("broken", job.number)

    def enter_object(self, job, o):
        """Lets the job on top enter an object."""
        if not self.stack.enter_object(o):
            self.give_up(job)
            return
        self.spend(job, self.setup.costs.enter)
        job.entries.append(job.own_time)
        self.tell("enter", job.number, o)

    def leave_object(self, job, o):
        """Lets the job on top leave an object."""
        if not self.stack.leave_object(o):
            self.give_up(job)
            return
        self.spend(job, self.setup.costs.leave)
        self.tell("leave", job.number, o, job.own_time - job.entries.pop())

    def end_job(self, job):
        """Ends the job on top."""
        if not self.stack.is_free():
            self.give_up(job)
            return
        self.spend(job, self.setup.costs.finish)
        self.stack.drop()
        self.jobs.pop()
        self.waiting.end(job.number)
        self.tell("done", job.number, job.time, job.own_time)

    def come_back(self, job):
        """Tells from which operation the job on top has come back."""
        if len(job.calls) == 0:
            self.tell("back", job.number, None, [])
            return
        p = job.calls.pop()
        self.tell("back", job.number, p, self.watched(p, 1))

    def watched(self, p, at):
        """The data at the first or the second list of addresses that are watched for an operation."""
        return [self.board.data[address] for address in self.setup.watches.get(p, ([], []))[at]]
