"""Certificates: records and verdicts that may come from anywhere, and are accepted if everything in them fits."""

from deadbeat.admit import Plan, analysed, slack_of, starts_of
from deadbeat.errors import BoundError, CodeError
from deadbeat.graphs import ending, graph, successors
from deadbeat.images import build
from deadbeat.longest import edge_cost, place_cost
from deadbeat.loops import loops, moved, nests
from deadbeat.must import after
from deadbeat.response import demand
from deadbeat.sections import callees, counters, outlines, routine_bound


def claims_right(processor, code, found, place, ends, called, rows):
    """Whether a list of claims from a place to the end addresses is right."""
    table = {row[0]: row for row in rows}
    if len(table) < len(rows) or place not in table or table[place][1] != [] or table[place][2] != []:
        return False
    neighbours = Neighbours(processor, code, found, ends, called, table)
    return all([neighbours.has_form(row) for row in rows]) and all([neighbours.fits(row) for row in rows])


class Neighbours:
    """Claims by their places, which are checked against those behind them."""

    def __init__(self, processor, code, found, ends, called, table):
        self.processor = processor
        self.code = code
        self.heads = nests(found)
        self.ends = ends
        self.called = called
        self.table = table
        self.bounds = {head: many for head, _, many, _ in found}
        self.tails = {tail: head for head, tail, _, _ in found}

    def heads_at(self, p):
        """The heads of the loops around an address, the outermost one first."""
        return self.heads.get(p, ())

    def has_form(self, claim):
        """Whether the place of a claim can exist, and whether its known lines and its weights are in order."""
        (p, turns), known_code, known_data, _, weights = claim
        if not 0 <= p < len(self.code) or not len(self.heads_at(p)) == len(turns) == len(weights):
            return False
        if self.code[p][0] == "link" and self.code[p][1] not in self.called:
            return False
        for turn, weight in zip(turns, weights):
            if turn not in (0, 1) or weight < 0 or (turn == 0 and weight != 0):
                return False
        code_shape, data_shape, _ = self.processor
        return _are_lines(code_shape, known_code) and _are_lines(data_shape, known_data)

    def fits(self, claim):
        """Whether a claim is enough for the cost of its place and for the claims behind it."""
        (p, _), known_code, known_data, base, weights = claim
        cost = place_cost(self.processor, self.code, p, dict(known_code), dict(known_data), self.called)
        behind = [] if p in self.ends else successors(self.code, p)
        if len(behind) == 0:
            return base + sum(weights) >= cost
        passed = after(self.processor, self.code, p, dict(known_code), dict(known_data))
        for q in behind:
            target = self.table.get(moved(self.heads_at(p), claim[0], self.heads_at(q), q))
            if target is None or not _is_known(passed[0], target[1]) or not _is_known(passed[1], target[2]):
                return False
            if not self.edge_fits(claim, target, base - cost - edge_cost(self.processor, self.code, p, q)):
                return False
        return True

    def edge_fits(self, claim, target, rest):
        """Whether a claim fits to the one behind an edge, with what is left of its base behind the edge."""
        (p, turns), _, _, _, weights = claim
        (q, _), _, _, base, target_weights = target
        behind = dict(zip(self.heads_at(q), target_weights))
        asked = True
        for head, turn, weight in zip(self.heads_at(p), turns, weights):
            if head == q and turn == 0:
                asked = self.bounds[q] != 1
                rest -= behind[q] * (self.bounds[q] - 1)
                continue
            if head in behind and behind[head] != weight:
                return False
            if head == q or head not in behind:
                rest += weight
            if self.tails.get(p) == head and q == p + 1 and turn == 0 and self.bounds[head] != 1:
                asked = False
        return not asked or rest >= base


def _are_lines(shape, known):
    """Whether pairs of lines and ages ascend without duplicates, and all ages are possible."""
    lines = [line for line, _ in known]
    return lines == sorted(set(lines)) and all([0 <= age < shape[1] for _, age in known])


def _is_known(passed, known):
    """Whether pairs of lines and ages are known, with at most these ages."""
    return all([line in passed and passed[line] <= age for line, age in known])


def records_right(processor, code, starts, rows):
    """Whether a list of records is accepted, with a body at each of some start addresses."""
    bodies = {row[0]: True for row in rows if row[1] == "body"}
    if any([start not in bodies for start in starts]):
        return False
    accepted = Accepted(processor, code)
    for row in rows:
        if not accepted.takes(row):
            return False
    return True


class Accepted:
    """What is known of the records that were accepted."""

    def __init__(self, processor, code):
        self.processor = processor
        self.code = code
        self.addresses = {}
        # By the start addresses of operations: their bounds, and the counters that they and their callees use.
        self.called = {}
        self.counters = {}

    def takes(self, row):
        """Accepts a record if it fits to those before it. Returns whether it does."""
        start, last, rows, found_sections = row
        try:
            stacks = graph(self.code, start)
            found = loops(self.code, start)
        except (CodeError, BoundError):
            return False
        if last != ending(self.code, start) or any([p in self.addresses for p in stacks]):
            return False
        if not self.calls_fit(start) or not self.claims_fit(start, found, rows, found_sections):
            return False
        self.addresses.update({p: True for p in stacks})
        if last == "operation":
            self.called[start] = routine_bound(row)
            self.counters[start] = self.counters_with_callees(start)
        return True

    def calls_fit(self, start):
        """Whether the callees of a routine are known operations, which do not use its counters."""
        near = callees(self.code, start)
        if any([callee not in self.called for callee in near]):
            return False
        own = counters(self.code, start)
        return not any([counter in self.counters[callee] for callee in near for counter in own])

    def counters_with_callees(self, start):
        """The counters that a routine and its callees use, also through others."""
        used = {counter: True for counter in counters(self.code, start)}
        for callee in callees(self.code, start):
            used.update(self.counters[callee])
        return used

    def claims_fit(self, start, found, rows, found_sections):
        """Whether a routine has right claims, and the right sections with right claims."""
        if not claims_right(self.processor, self.code, found, (start, ()), [], self.called, rows):
            return False
        expected = outlines(self.code, start, found)
        if [(e, o) for e, o, _ in found_sections] != [(e, o) for e, o, _, _ in expected]:
            return False
        for (_, _, first, ends), (_, _, inner) in zip(expected, found_sections):
            if not claims_right(self.processor, self.code, found, first, ends, self.called, inner):
                return False
        return True


def verdict_right(program, processor, image, rows, verdict):
    """Whether a verdict is accepted with a list of records that is accepted."""
    plan = Plan(program, processor, image, {row[0]: row for row in rows})
    _, admitted, slack, verdict_rows = verdict
    if not admitted or slack < slack_of(plan.costs) or [row[0] for row in verdict_rows] != plan.numbers:
        return False
    return all([_row_right(plan, slack, row) for row in verdict_rows])


def _row_right(plan, slack, row):
    """Whether the row of a number in a verdict with some slack is enough."""
    number, own, blocked, above, response = row
    if own < plan.own(number) or blocked < plan.blocked(number, slack):
        return False
    least = plan.above(number)
    if [every for every, _ in above] != [every for every, _ in least]:
        return False
    if any([cost < needed for (_, cost), (_, needed) in zip(above, least)]):
        return False
    if response is None or not 1 <= response <= plan.within[number]:
        return False
    return demand(response, own, blocked, above, plan.releases(), plan.costs.release, slack) <= response


def certify(program, processor):
    """The certificate of a program for a processor: its records, callees first, and its verdict."""
    plan = analysed(program, processor)
    return ([plan.table[start] for start in plan.table], plan.verdict())


def audit(program, processor, certificate):
    """Whether a certificate is accepted for a program and a processor. Raises CodeError."""
    code_shape, data_shape, _ = processor
    image = build(program, code_shape[2], data_shape[2])
    rows, verdict = certificate
    starts = list(starts_of(program, image).values())
    return records_right(processor, image[1], starts, rows) and verdict_right(program, processor, image, rows, verdict)
