"""Graphs, loops and places by their definitions, as plainly and slowly as possible (points 15 and 16)."""


def following(code, p):
    row = code[p]
    return {"back": set(), "done": set(), "jump": set(row[1:]), "jzero": {p + 1, row[-1]},
            "again": {p + 1, row[-1]}}.get(row[0], {p + 1})


def stacks(code, start):
    """The stacks of the reached addresses, or None if the routine is not well formed."""
    found, waiting = {start: {()}}, [(start, ())]
    while waiting:
        p, stack = waiting.pop()
        if p not in range(len(code)) or code[p][0] == "link" and code[p][1] not in range(len(code)):
            return None
        name, *rest = code[p]
        if name in ("back", "done") and stack or name == "enter" and rest[0] in stack:
            return None
        if name == "leave" and (not stack or stack[-1] != rest[0]):
            return None
        if name == "enter":
            stack += (rest[0],)
        if name == "leave":
            stack = stack[:-1]
        for q in following(code, p):
            if stack not in found.setdefault(q, set()):
                found[q].add(stack)
                waiting.append((q, stack))
        if any(len(rows) > 1 for rows in found.values()):
            return None
    if len({code[p][0] for p in found} & {"back", "done"}) != 1:
        return None
    return {p: min(rows) for p, rows in found.items()}


def reach(code, start, barred):
    """The addresses that can be reached without a barred one, the start included."""
    found, waiting = set(), [start]
    while waiting:
        p = waiting.pop()
        if p != barred and p not in found:
            found.add(p)
            waiting.extend(following(code, p))
    return found


def find_loops(code, start):
    """The loops of a well-formed routine, or None if a condition of points 16.2 to 16.4 does not hold."""
    reached = set(stacks(code, start))
    edges = {(p, q) for p in reached for q in following(code, p)}
    back = [(p, q) for p, q in edges if q <= p]
    if any(code[p][0] != "again" or code[p][2] != q for p, q in back) or len({q for _, q in back}) < len(back):
        return None
    found = []
    for tail, head in back:
        members = {p for p in reached if p != head and tail in reach(code, p, head)} | {head}
        counter = code[tail][1]
        if tail in reach(code, start, head) or head - 1 not in reached:
            return None
        if code[head - 1][:2] != ("count", counter) or {p for p, q in edges if q == head} != {head - 1, tail}:
            return None
        if tail + 1 in members or any(code[p][0] in ("count", "again") and code[p][1] == counter for p in members - {tail}):
            return None
        found.append((head, tail, code[head - 1][2], tuple(sorted(members))))
    if any(sum(head in other[3] for other in found) > 4 for head, _, _, _ in found):
        return None
    return sorted(found)


def heads(found, p):
    """The heads of the loops around an address, those with more members first."""
    return tuple(head for _, head in sorted((-len(members), head) for head, _, _, members in found if p in members))


def next_place(found, place, q):
    p, turns = place
    items = dict(zip(heads(found, p), turns))
    if q <= p:
        items[q] = 1
    return (q, tuple(items.get(head, 0) for head in heads(found, q)))


def all_places(code, found, first, ends=()):
    """All places that can be reached from a place, without going on from the end addresses."""
    reached, waiting = set(), [first]
    while waiting:
        place = waiting.pop()
        if place not in reached:
            reached.add(place)
            if place[0] not in ends:
                waiting.extend(next_place(found, place, q) for q in following(code, place[0]))
    return sorted(reached)
