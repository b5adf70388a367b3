"""The records of routines: the claims of whole routines and of their sections, which stretch from enter to leave."""

from deadbeat.errors import BoundError
from deadbeat.graphs import ending, graph
from deadbeat.longest import bound, claims
from deadbeat.loops import around, follow, loops


def callees(code, start):
    """The addresses that a routine calls itself, ascending. Raises CodeError."""
    return sorted(set([code[p][1] for p in graph(code, start) if code[p][0] == "link"]))


def all_routines(code, starts):
    """The start addresses and all callees, also through others, ascending. Raises CodeError."""
    return sorted(list(_all_callees(code, starts)))


def _all_callees(code, starts):
    """The callees of each start address, and of all callees, also through others."""
    near = {}
    waiting = list(starts)
    while waiting:
        start = waiting.pop()
        if start not in near:
            near[start] = callees(code, start)
            waiting.extend(near[start])
    return near


def records(processor, code, starts):
    """The records of the routines at some start addresses and of all callees, callees first."""
    near = _all_callees(code, starts)
    order = _callees_first(near)
    _check_callees(code, near)
    _check_counters(code, near, order)
    _check_addresses(code, near)
    table = {}
    called = {}
    for start in order:
        table[start] = _routine_record(processor, code, start, called)
        called[start] = routine_bound(table[start])
    return table


def _callees_first(near):
    """The routines in an order in which callees stand ahead of their callers. Raises BoundError."""
    callers = {start: [] for start in near}
    missing = {}
    for start in near:
        missing[start] = len(near[start])
        for callee in near[start]:
            callers[callee].append(start)
    order = []
    ready = [start for start in near if missing[start] == 0]
    while ready:
        callee = ready.pop()
        order.append(callee)
        for start in callers[callee]:
            missing[start] -= 1
            if missing[start] == 0:
                ready.append(start)
    if len(order) < len(near):
        raise BoundError(_calls_itself(near, missing))
    return order


def _calls_itself(near, missing):
    """A routine that calls itself, if some routines miss callees that could not be placed ahead of them."""
    start = [at for at in near if missing[at] > 0][0]
    seen = {}
    while start not in seen:
        seen[start] = True
        start = [callee for callee in near[start] if missing[callee] > 0][0]
    return start


def _check_callees(code, near):
    """Checks that every callee is an operation. Raises BoundError with its caller."""
    for start in near:
        for callee in near[start]:
            if ending(code, callee) != "operation":
                raise BoundError(start)


def _check_counters(code, near, order):
    """Checks that no routine uses a counter of its callees, also through others. Raises BoundError."""
    used = {}
    for start in order:
        below = {}
        for callee in near[start]:
            below.update(used[callee])
        own = counters(code, start)
        if any([counter in below for counter in own]):
            raise BoundError(start)
        below.update({counter: True for counter in own})
        used[start] = below


def counters(code, start):
    """The counters that a routine uses itself, ascending. Raises CodeError."""
    return sorted(set([code[p][1] for p in graph(code, start) if code[p][0] in ("count", "again")]))


def _check_addresses(code, near):
    """Checks that no address belongs to two routines. Raises BoundError."""
    owners = {}
    for start in near:
        for p in graph(code, start):
            if owners.setdefault(p, start) != start:
                raise BoundError(start)


def _routine_record(processor, code, start, called):
    """The record of a routine, if the bounds of its callees are known. Raises BoundError."""
    found = loops(code, start)
    rows = claims(processor, code, found, (start, ()), [], called)
    found_sections = []
    for e, o, first, ends in outlines(code, start, found):
        found_sections.append((e, o, claims(processor, code, found, first, ends, called)))
    return (start, ending(code, start), rows, found_sections)


def outlines(code, start, found):
    """Tuples of the address, the object, the first place and the end addresses of each section, ascending."""
    stacks = graph(code, start)
    rows = []
    for e in stacks:
        if code[e][0] == "enter":
            o = code[e][1]
            # Every address of a loop is executed in its first round before it is in a later one.
            smallest = (e, tuple([0 for _ in around(found, e)]))
            ends = [p for p in stacks if code[p] == ("leave", o) and stacks[p] == stacks[e] + (o,)]
            rows.append((e, o, follow(found, smallest, e + 1), ends))
    return rows


def routine_bound(record):
    """The bound of the routine of a record."""
    start, _, rows, _ = record
    return bound(rows, (start, ()))


def section_bounds(record):
    """Tuples of the address, the object and the bound of each section of a record, ascending."""
    return sorted([(e, o, _section_bound(e, rows)) for e, o, rows in record[3]])


def _section_bound(e, rows):
    """The bound of the section behind an enter: no other place than its first one is directly behind the enter."""
    first = min([place for place, _, _, _, _ in rows if place[0] == e + 1])
    return bound(rows, first)
