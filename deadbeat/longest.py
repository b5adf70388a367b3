"""The longest path from a place to an end address, with claims about all places from which its bound follows."""

from deadbeat.cpu import instruction_cost
from deadbeat.loops import around, nests, onward
from deadbeat.must import hits, known_from


def place_cost(processor, code, p, known_code, known_data, called):
    """The cost of a place without its edges, with the bounds of the callees by their addresses."""
    costs = processor[2]
    fetch_hit, load_hit = hits(processor, code, p, known_code, known_data)
    cost = instruction_cost(costs, code[p], fetch_hit=fetch_hit, load_hit=load_hit)
    match code[p][0]:
        case "link":
            return cost + called[code[p][1]]
        case "enter":
            return cost + costs.enter
        case "leave":
            return cost + costs.leave
        case "done":
            return cost + costs.finish
        case _:
            return cost


def edge_cost(processor, code, p, q):
    """The cost of the edge from one address to another."""
    if code[p][0] in ("jzero", "again") and code[p][2] == q:
        return processor[2].taken
    return 0


def claims(processor, code, found, place, ends, called):
    """The claims of all places from a place to the end addresses, ascending."""
    known = known_from(processor, code, found, place, ends)
    costs = {at: place_cost(processor, code, at[0], known[at][0], known[at][1], called) for at in known}
    web = Web(processor, code, found, onward(code, found, place, ends), costs)
    web.weigh_loops(around(found, place[0]))
    bases = web.bases()
    return [
        (at, sorted(known[at][0].items()), sorted(known[at][1].items()), bases[at], web.weights(at))
        for at in sorted(list(known))
    ]


def bound(found_claims, place):
    """The base of the claim of a place."""
    for at, _, _, base, _ in found_claims:
        if at == place:
            return base


class Web:
    """The places of a routine with their edges, costs and weights.

    The weight of a loop is the cost of its longest later round. It is kept for each round of the loops around, by
    the head and the turns of these. So a claim may count on it for each later round, and what is left for the base
    is a longest path that need not go around: no way from a place back to itself costs more than the weight.
    """

    def __init__(self, processor, code, found, behind, costs):
        self.processor = processor
        self.code = code
        self.heads = nests(found)
        self.bounds = {head: many for head, _, many, _ in found}
        self.tails = {tail: head for head, tail, _, _ in found}
        self.behind = behind
        self.costs = costs
        self.loop_weights = {}

    def heads_at(self, p):
        """The heads of the loops around an address, the outermost one first."""
        return self.heads.get(p, ())

    def weight(self, place, level):
        """The weight that a place has for one of the loops around it, counted from the outermost one on."""
        p, turns = place
        if turns[level] == 0:
            return 0
        return self.loop_weights[(self.heads_at(p)[level], turns[:level])]

    def weights(self, place):
        """The weights that a place has for all loops around it."""
        return tuple([self.weight(place, level) for level in range(len(place[1]))])

    def is_asked(self, here, there):
        """Whether a path can take an edge: a tail is left forward in the last round only, and back in all others."""
        p, turns = here
        if p not in self.tails or turns[-1] == 1:
            return True
        goes_back = there[0] == self.tails[p]
        has_one_round = self.bounds[self.tails[p]] == 1
        return goes_back != has_one_round

    def expense(self, here, there):
        """By how much the base of a place must exceed that of the place behind an edge."""
        p, turns = here
        q = there[0]
        expense = self.costs[here] + edge_cost(self.processor, self.code, p, q)
        if q <= p and turns[-1] == 0:
            return expense + self.weight(there, len(turns) - 1) * (self.bounds[q] - 1)
        for level, head in enumerate(self.heads_at(p)):
            if head == q or head not in self.heads_at(q):
                expense -= self.weight(here, level)
        return expense

    def longest(self, here, values):
        """The greatest value behind the edges of a place, each with its expense, or None if there is no value."""
        sums = [
            self.expense(here, there) + values[there]
            for there in self.behind[here] if there in values and self.is_asked(here, there)
        ]
        return max(sums, default=None)

    def weigh_loops(self, fixed):
        """Finds the weights of all loops, those of inner ones first. The loops with a fixed head have no rounds."""
        rounds = {}
        for place in self.behind:
            p, turns = place
            for level, head in enumerate(self.heads_at(p)):
                if turns[level] == 1:
                    rounds.setdefault((head, turns[:level]), []).append(place)
        for loop in sorted(list(rounds), key=lambda row: -len(row[1])):
            self.loop_weights[loop] = 0 if loop[0] in fixed else self.longest_round(rounds[loop])

    def longest_round(self, round_places):
        """The cost of the longest round of a loop, from its head back to its head. The head is the first place."""
        head = round_places[0]
        values = {}
        for here in reversed(round_places):
            if self.tails.get(here[0], -1) == head[0]:
                values[here] = self.costs[here] + edge_cost(self.processor, self.code, here[0], head[0])
            else:
                value = self.longest(here, values)
                if value is not None:
                    values[here] = value
        return values[head]

    def bases(self):
        """The bases of all places, when the weights are known."""
        bases = {}
        changed = True
        while changed:
            changed = False
            for here in reversed(list(self.behind)):
                base = self.base(here, bases)
                if base != bases.get(here):
                    bases[here] = base
                    changed = True
        return bases

    def base(self, here, bases):
        """The base of a place, from those of the places behind it."""
        if len(self.behind[here]) == 0:
            return self.costs[here] - sum(self.weights(here))
        return self.longest(here, bases)
