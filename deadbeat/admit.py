"""The admission test: whether all deadlines of a program are met on a processor."""

from deadbeat.images import build, entry
from deadbeat.orders import ceilings, numbers, owner
from deadbeat.reload import Reloads
from deadbeat.response import response_time
from deadbeat.sections import records, routine_bound, section_bounds


def slack_of(costs):
    """The longest time for which one instruction or kernel act is in progress."""
    executions = [
        costs.plain + costs.taken, costs.plain + costs.enter, costs.plain + costs.leave, costs.plain + costs.finish,
        costs.mul, costs.div, costs.load_miss, costs.store, costs.count + costs.taken, costs.port,
    ]
    return max(costs.release, costs.switch, costs.fetch_miss + max(executions))


def starts_of(program, image):
    """The entries of all tasks and interrupts by their numbers."""
    return {number: entry(image, owner(program, number)) for number in numbers(program)}


def admission(program, processor):
    """The verdict on a program for a processor."""
    return analysed(program, processor).verdict()


def analysed(program, processor):
    """The plan of a program for a processor, with the records that are computed. Raises CodeError and BoundError."""
    code_shape, data_shape, _ = processor
    image = build(program, code_shape[2], data_shape[2])
    table = records(processor, image[1], list(starts_of(program, image).values()))
    return Plan(program, processor, image, table)


class Plan:
    """The times of the tasks and interrupts of a program, which follow from the records of its routines."""

    def __init__(self, program, processor, image, table):
        self.costs = processor[2]
        self.numbers = numbers(program)
        self.ceilings = ceilings(program)
        self.starts = starts_of(program, image)
        self.table = table
        self.reloads = Reloads(processor, image[1], table)
        rows = list(zip(self.numbers, program[4] + program[5]))
        self.every = {number: row[2] for number, row in rows}
        self.within = {number: row[3] for number, row in rows}
        self.delays = {number: self.section_delays(start) for number, start in self.starts.items()}

    def section_delays(self, start):
        """Pairs of a ceiling and a delay for each section of the routine of a task or interrupt."""
        rows = []
        for e, o, bound in section_bounds(self.table[start]):
            sets = self.reloads.sets_from(self.starts, self.ceilings[o] + 1)
            rows.append((self.ceilings[o], bound + self.reloads.section(start, e, sets)))
        return rows

    def need(self, number):
        """The bound of the body of a number."""
        return routine_bound(self.table[self.starts[number]])

    def own(self, number):
        """What one job of a number costs."""
        return self.need(number) + self.costs.switch

    def blocked(self, number, slack):
        """How long a lower job, or what is in progress, can delay a number."""
        delays = [
            delay for lower, rows in self.delays.items() if lower < number
            for ceiling, delay in rows if ceiling >= number
        ]
        return slack + max(delays, default=0)

    def charge(self, j, number):
        """What one preemption by the number j costs a number at most."""
        return self.reloads.charge(self.starts, self.ceilings, j, number)

    def above(self, number):
        """Pairs of the least distance and the whole cost of a job for each greater number, ascending."""
        rows = []
        for j in sorted(self.starts):
            if j > number:
                rows.append((self.every[j], self.need(j) + 2 * self.costs.switch + self.charge(j, number)))
        return rows

    def releases(self):
        """The least distances of the releases of all tasks and interrupts."""
        return [self.every[number] for number in self.numbers]

    def row(self, number, slack):
        """The row of a number in the verdict."""
        own = self.own(number)
        blocked = self.blocked(number, slack)
        above = self.above(number)
        response = response_time(
            self.within[number], own, blocked, above, self.releases(), self.costs.release, slack
        )
        return (number, own, blocked, above, response)

    def verdict(self):
        """The verdict on the program."""
        slack = slack_of(self.costs)
        rows = [self.row(number, slack) for number in self.numbers]
        return ("verdict", all([row[4] is not None for row in rows]), slack, rows)
