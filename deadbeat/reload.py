"""What preemptions cost: the lines that a routine has to bring in again after others have used their sets."""

from deadbeat.graphs import graph, successors
from deadbeat.must import data_lines
from deadbeat.sections import all_routines


def used_sets(processor, code, table, start):
    """The code sets and the data sets of a routine and of its callees, also through others, ascending."""
    code_shape, data_shape, _ = processor
    code_sets = {}
    data_sets = {}
    # The records are not needed: which lines are used depends on the code alone.
    for at in all_routines(code, [start]):
        for p in graph(code, at):
            code_sets[p // code_shape[2] % code_shape[0]] = True
            for line in data_lines(data_shape, code[p]):
                data_sets[line % data_shape[0]] = True
    return (sorted(code_sets), sorted(data_sets))


def claims_reload(processor, rows, code_sets, data_sets):
    """The reload cost of a list of claims for some sets."""
    code_shape, data_shape, costs = processor
    code_loss = costs.fetch_miss - costs.fetch_hit
    data_loss = costs.load_miss - costs.load_hit
    in_code = {at: True for at in code_sets}
    in_data = {at: True for at in data_sets}
    greatest = 0
    for _, known_code, known_data, _, _ in rows:
        lost = _many_in(code_shape, known_code, in_code) * code_loss
        lost += _many_in(data_shape, known_data, in_data) * data_loss
        greatest = max(greatest, lost)
    return greatest


def _many_in(shape, known, sets):
    """How many of the known lines are in some sets."""
    return len([line for line, _ in known if line % shape[0] in sets])


def routine_reload(processor, code, table, start, code_sets, data_sets):
    """The reload cost of a routine for some sets."""
    return Reloads(processor, code, table).routine(start, (tuple(code_sets), tuple(data_sets)))


def section_reload(processor, code, table, start, at, code_sets, data_sets):
    """The reload cost of the section of a routine that begins with the enter at an address, for some sets."""
    return Reloads(processor, code, table).section(start, at, (tuple(code_sets), tuple(data_sets)))


def charge(processor, code, table, starts, ceilings, j, n):
    """What one preemption by the number j costs at most while the number n waits or runs."""
    return Reloads(processor, code, table).charge(starts, ceilings, j, n)


class Reloads:
    """The reload costs of the routines with records. What was found is kept, because much is asked for again."""

    def __init__(self, processor, code, table):
        self.processor = processor
        self.code = code
        self.table = table
        self.routines = {}
        self.used = {}
        self.known = {}

    def with_callees(self, start):
        """The start addresses of a routine and of its callees, also through others."""
        if start not in self.routines:
            self.routines[start] = all_routines(self.code, [start])
        return self.routines[start]

    def sets_from(self, starts, first):
        """The code sets and the data sets of all tasks and interrupts with numbers from one on."""
        code_sets = {}
        data_sets = {}
        for number, start in starts.items():
            if number >= first:
                if start not in self.used:
                    self.used[start] = used_sets(self.processor, self.code, self.table, start)
                code_sets.update({at: True for at in self.used[start][0]})
                data_sets.update({at: True for at in self.used[start][1]})
        return (tuple(sorted(code_sets)), tuple(sorted(data_sets)))

    def routine(self, start, sets):
        """The reload cost of a routine for a pair of code sets and data sets."""
        return max([self.own(at, sets) for at in self.with_callees(start)])

    def own(self, start, sets):
        """The reload cost of the claims of a routine, without its callees."""
        if (start, sets) not in self.known:
            self.known[(start, sets)] = claims_reload(self.processor, self.table[start][2], sets[0], sets[1])
        return self.known[(start, sets)]

    def section(self, start, at, sets):
        """The reload cost of the section of a routine that begins with the enter at an address."""
        if (start, at, sets) not in self.known:
            rows = [found for e, _, found in self.table[start][3] if e == at]
            costs = [claims_reload(self.processor, rows[0], sets[0], sets[1])]
            costs.extend([self.routine(callee, sets) for callee in _section_callees(self.code, at)])
            self.known[(start, at, sets)] = max(costs)
        return self.known[(start, at, sets)]

    def charge(self, starts, ceilings, j, n):
        """The charge of the number j for the number n."""
        sets = self.sets_from(starts, j)
        costs = [self.routine(start, sets) for number, start in starts.items() if n <= number < j]
        for number, start in starts.items():
            if number < n:
                near = [e for e, o, _ in self.table[start][3] if n <= ceilings[o] < j]
                costs.extend([self.section(start, e, sets) for e in near])
        return max(costs, default=0)


def _section_callees(code, at):
    """The start addresses of the routines that are called in the section that begins with the enter at an address."""
    seen = {}
    waiting = [at + 1]
    while waiting:
        p = waiting.pop()
        # An object is not entered twice, so the next leave of it ends the section.
        if p not in seen and code[p] != ("leave", code[at][1]):
            seen[p] = True
            waiting.extend(successors(code, p))
    return [code[p][1] for p in seen if code[p][0] == "link"]
