"""The loops of a routine, and its places: addresses with the loops of which a later round is executed."""

from deadbeat.errors import BoundError
from deadbeat.graphs import graph, successors

DEEPEST_LOOP = 4


def loops(code, start):
    """The loops of a routine, ascending by head: tuples of head, tail, bound and members. Raises BoundError."""
    stacks = graph(code, start)
    before = _predecessors(code, stacks)
    tails = _tails(code, start, stacks)
    found = []
    for head in sorted(tails):
        tail = tails[head]
        members = _members(before, head, tail)
        # A path to the tail that avoids the head makes the start a member.
        _demand(start == head or start not in members, start)
        _demand(before[head] == [head - 1, tail] and tail + 1 not in members, start)
        _demand(code[head - 1][:2] == ("count", code[tail][1]), start)
        _demand(not any([_sets_counter(code[p], code[tail][1]) for p in members if p != tail]), start)
        found.append((head, tail, code[head - 1][2], members))
    for heads in nests(found).values():
        _demand(len(heads) <= DEEPEST_LOOP, start)
    return found


def _demand(holds, start):
    """Says that the time of the routine at an address is not bounded if a condition does not hold."""
    if not holds:
        raise BoundError(start)


def _predecessors(code, stacks):
    """For each reached address the reached addresses that it can follow, ascending."""
    before = {p: [] for p in stacks}
    for p in stacks:
        for q in successors(code, p):
            before[q].append(p)
    return before


def _tails(code, start, stacks):
    """The tails of the loops by their heads. Raises BoundError if an edge back is none of a loop."""
    tails = {}
    for p in stacks:
        for q in successors(code, p):
            if q <= p:
                _demand(code[p][0] == "again" and q not in tails, start)
                tails[q] = p
    return tails


def _members(before, head, tail):
    """The addresses from which the tail can be reached without the head, and the head, ascending."""
    members = {head: True, tail: True}
    waiting = [tail]
    while waiting:
        p = waiting.pop()
        if p != head:
            for q in before[p]:
                if q not in members:
                    members[q] = True
                    waiting.append(q)
    return tuple(sorted(members))


def _sets_counter(instruction, counter):
    return instruction[0] in ("count", "again") and instruction[1] == counter


def around(found, p):
    """The heads of the loops that have an address as a member, the outermost one first."""
    # Only loops go back, and an inner loop is entered behind the outer head, so outer heads are lower.
    return tuple([head for head, _, _, members in found if p in members])


def nests(found):
    """The heads of the loops around each address that is a member of a loop, as the function `around` returns them."""
    heads = {}
    for head, _, _, members in found:
        for p in members:
            heads[p] = heads.get(p, ()) + (head,)
    return heads


def follow(found, place, q):
    """The place behind an edge from the address of a place."""
    return moved(around(found, place[0]), place, around(found, q), q)


def moved(old, place, new, q):
    """The place behind an edge, if it is known which loops are around its two addresses."""
    p, turns = place
    rounds = {head: turn for head, turn in zip(old, turns)}
    if q <= p:
        rounds[q] = 1
    return (q, tuple([rounds.get(head, 0) for head in new]))


def onward(code, found, place, ends):
    """The places that can be reached from a place, each with those that can follow it, none behind the end addresses.

    A place stands behind those that it follows, except behind an edge back from a later round.
    """
    heads = nests(found)
    stops = set(ends)
    behind = {}
    waiting = [place]
    while waiting:
        here = waiting.pop()
        if here not in behind:
            old = heads.get(here[0], ())
            nearest = [] if here[0] in stops else successors(code, here[0])
            behind[here] = [moved(old, here, heads.get(q, ()), q) for q in nearest]
            waiting.extend(behind[here])
    ranks = sorted([(_rank(heads, at), at) for at in behind])
    return {at: behind[at] for _, at in ranks}


def _rank(heads, place):
    """What places are ordered by: the loops around a place with their rounds, and then its address."""
    rank = ()
    for head, turn in zip(heads.get(place[0], ()), place[1]):
        rank = rank + (head, turn)
    return rank + (place[0],)


def places(code, start):
    """The places of a routine, ascending. Raises BoundError."""
    found = loops(code, start)
    _demand(around(found, start) == (), start)
    return sorted(list(onward(code, found, (start, ()), [])))
