"""Certificates by the words of points 18.3 and 24, and changes of certificates at random."""

from functools import lru_cache
from math import ceil

from deadbeat.admit import slack_of
from deadbeat.cpu import Costs, instruction_cost
from deadbeat.graphs import ending
from deadbeat.images import entry
from deadbeat.must import after, hits
from deadbeat.orders import ceilings, numbers
from tests import naive
from tests.test_reload import plain_charge, plain_section, plain_sets


def claims_hold(processor, code, found, first, ends, called, rows):
    """Whether claims are right. Claims of places that cannot exist are not."""
    table = {row[0]: row for row in rows}
    if len(table) != len(rows) or first not in table or table[first][1:3] != ([], []):
        return False
    return all(form_holds(processor, code, found, called, row) for row in rows) and all(
        claim_holds(processor, code, found, ends, called, table, row) for row in rows)


def form_holds(processor, code, found, called, row):
    (p, turns), known_code, known_data, _, weights = row
    if p not in range(len(code)) or len(turns) != len(naive.heads(found, p)) or len(weights) != len(turns):
        return False
    if any(turn not in (0, 1) or weight < 0 or weight > 0 and turn == 0 for turn, weight in zip(turns, weights)):
        return False
    for known, (_, ways, _) in ((known_code, processor[0]), (known_data, processor[1])):
        lines = [line for line, _ in known]
        if any(age not in range(ways) for _, age in known) or any(a >= b for a, b in zip(lines, lines[1:])):
            return False
    return code[p][0] != "link" or code[p][1] in called


def full_cost(processor, code, p, known, called):
    """The cost of a place."""
    costs, name = processor[2], code[p][0]
    fetch_hit, load_hit = hits(processor, code, p, *known)
    cost = instruction_cost(costs, code[p], fetch_hit=fetch_hit, load_hit=load_hit)
    if name == "link":
        cost += called[code[p][1]]
    return cost + {"enter": costs.enter, "leave": costs.leave, "done": costs.finish}.get(name, 0)


def claim_holds(processor, code, found, ends, called, table, row):
    place, known_code, known_data, base, weights = row
    p = place[0]
    known = (dict(known_code), dict(known_data))
    cost = full_cost(processor, code, p, known, called)
    if p in ends or code[p][0] in ("back", "done"):
        return base + sum(weights) >= cost
    passed = after(processor, code, p, *known)
    for q in naive.following(code, p):
        target = table.get(naive.next_place(found, place, q))
        if target is None:
            return False
        for old, new in zip(passed, target[1:3]):
            if any(old.get(line, 99) > age for line, age in new):
                return False
        taken = processor[2].taken if code[p][0] in ("jzero", "again") and code[p][2] == q else 0
        if not edge_holds(found, row, target, cost + taken):
            return False
    return True


def edge_holds(found, row, target, cost):
    (p, turns), _, _, base, weights = row
    q = target[0][0]
    bounds = {head: many for head, _, many, _ in found}
    tails = {tail: head for head, tail, _, _ in found}
    items = dict(zip(naive.heads(found, p), turns))
    mine = dict(zip(naive.heads(found, p), weights))
    other = dict(zip(naive.heads(found, q), target[4]))
    is_back = q <= p and q in items
    for head in set(mine) & set(other):
        if mine[head] != other[head] and not (is_back and head == q and items[q] == 0):
            return False
    gain = sum(mine[head] for head in mine if head not in other and items[head] == 1)
    owed = 0
    if is_back and items[q] == 1:
        gain += mine[q]
    if is_back and items[q] == 0:
        if bounds[q] == 1:
            return True
        owed = other[q] * (bounds[q] - 1)
    if not is_back and q == p + 1 and p in tails and items[tails[p]] == 0 and bounds[tails[p]] != 1:
        return True
    return base + gain >= cost + target[3] + owed


def base_of(rows, place):
    return {row[0]: row[3] for row in rows}[place]


@lru_cache(maxsize=None)
def form_of(code, start):
    """The stacks and the loops of a routine in a tuple of instructions, or None for what is not allowed."""
    stacks = naive.stacks(code, start)
    return stacks, None if stacks is None else naive.find_loops(code, start)


def records_hold(processor, code, starts, rows):
    """Point 24.2 in its own words."""
    table, called, used, owned = {}, {}, {}, set()
    for start, last, rows_of, sections in rows:
        stacks, found = form_of(tuple(code), start)
        if start in table or found is None or ending(code, start) != last or owned & set(stacks):
            return False
        near = {code[p][1] for p in stacks if code[p][0] == "link"}
        own = {code[p][1] for p in stacks if code[p][0] in ("count", "again")}
        if not near <= set(called) or any(own & used[callee] for callee in near):
            return False
        if not claims_hold(processor, code, found, (start, ()), [], called, rows_of):
            return False
        expected = [p for p in sorted(stacks) if code[p][0] == "enter"]
        if [(e, o) for e, o, _ in sections] != [(e, code[e][1]) for e in expected]:
            return False
        for e, o, inner in sections:
            ends = [p for p in stacks if code[p] == ("leave", o) and stacks[p] == stacks[e] + (o,)]
            smallest = min(place for place in naive.all_places(code, found, (start, ())) if place[0] == e)
            if not claims_hold(processor, code, found, naive.next_place(found, smallest, e + 1), ends, called, inner):
                return False
        owned |= set(stacks)
        used[start] = own.union(*[used[callee] for callee in near])
        table[start] = last
        if last == "operation":
            called[start] = base_of(rows_of, (start, ()))
    return all(table.get(start) == "body" for start in starts)


def section_first(code, start, e):
    """The first place of a section."""
    _, found = form_of(tuple(code), start)
    smallest = min(place for place in naive.all_places(code, found, (start, ())) if place[0] == e)
    return naive.next_place(found, smallest, e + 1)


def verdict_holds(program, processor, image, rows, verdict):
    """Point 24.3 in its own words."""
    table, code, costs = {row[0]: row for row in rows}, image[1], processor[2]
    parts, order, limits = program[4] + program[5], numbers(program), ceilings(program)
    routines = [("task", t) for t in range(len(program[4]))] + [("interrupt", i) for i in range(len(program[5]))]
    starts = {number: entry(image, routine) for number, routine in zip(order, routines)}
    every = {number: part[2] for number, part in zip(order, parts)}
    need = {number: base_of(table[start][2], (start, ())) for number, start in starts.items()}
    _, admitted, slack, found = verdict
    if admitted is not True or slack < slack_of(costs) or [row[0] for row in found] != order:
        return False
    for (number, own, blocked, above, response), part in zip(found, parts):
        delays = [0]
        for lower in [other for other in starts if other < number]:
            for e, o, inner in table[starts[lower]][3]:
                if limits[o] >= number:
                    bound = base_of(inner, section_first(code, starts[lower], e))
                    sets = [set(), set()]
                    for other in [other for other in starts if other > limits[o]]:
                        for row, new in zip(sets, plain_sets(processor, code, starts[other])):
                            row.update(new)
                    delays.append(bound + plain_section(processor, code, table, starts[lower], e, *sets))
        if own < need[number] + costs.switch or blocked < slack + max(delays):
            return False
        greater = [j for j in range(number + 1, 11) if j in starts]
        if [pair[0] for pair in above] != [every[j] for j in greater]:
            return False
        for (_, cost), j in zip(above, greater):
            if cost < need[j] + 2 * costs.switch + plain_charge(processor, code, table, starts, limits, j, number):
                return False
        if response is None or not 1 <= response <= part[3]:
            return False
        total = own + blocked + sum(cost * ceil(response / distance) for distance, cost in above)
        total += sum(costs.release * ceil((response + slack) / other[2]) for other in parts)
        if total > response:
            return False
    return True


def slow_costs(costs):
    """The same costs, but a hit costs as much as a miss."""
    rows = dict(vars(costs))
    rows.update(fetch_hit=costs.fetch_miss, load_hit=costs.load_miss)
    return Costs(**rows)


def forgetful(rows):
    """Claims that know nothing."""
    return [(place, [], [], base, weights) for place, _, _, base, weights in rows]


def replaced(row, at, item):
    """A tuple with another item."""
    return row[:at] + (item,) + row[at + 1:]


def changed_known(chance, known):
    """Pairs of lines and ages with one change."""
    known = list(known)
    kind = chance.randrange(7)
    if not known or kind == 0:
        known.append((chance.randrange(-1, 60), chance.randrange(-1, 4)))
        return known if chance.random() < 0.3 else sorted(known)
    at = chance.randrange(len(known))
    line, age = known[at]
    if kind == 1:
        del known[at]
    elif kind == 2:
        known.append(known[at])
    elif kind == 3:
        chance.shuffle(known)
    elif kind == 4:
        known[at] = (line + chance.choice([-1, 1]), age)
    else:
        known[at] = (line, age + chance.choice([-1, 1, 1]))
    return known


def changed_claim(chance, row):
    """A claim with one change."""
    (p, turns), known_code, known_data, base, weights = row
    kind = chance.randrange(8)
    if kind < 2:
        return replaced(row, 3, base + chance.choice([-1, 1, -3, 3, 100]))
    if kind == 2:
        return replaced(row, 1, changed_known(chance, known_code))
    if kind == 3:
        return replaced(row, 2, changed_known(chance, known_data))
    if kind < 6 and weights:
        at = chance.randrange(len(weights))
        weight = weights[at] + chance.choice([-1, 1, 1, 5]) if chance.random() < 0.8 else chance.choice([-1, 0, 1])
        return replaced(row, 4, replaced(weights, at, weight))
    if kind == 6:
        return replaced(row, 4, chance.choice([weights + (0,), weights[:-1], (-1,) * len(weights)]))
    other = (p + chance.choice([-1, 1]), turns) if not turns or chance.random() < 0.3 else (
        p, replaced(turns, chance.randrange(len(turns)), chance.choice([-1, 0, 1, 2])))
    return replaced(row, 0, chance.choice([other, (p, turns + (0,)), (p, turns[:-1]), (p + 1000, turns), (-p - 1, turns)]))


def changed_claims(chance, rows):
    """A list of claims with one change, or with one that keeps the claims right."""
    rows = list(rows)
    kind = chance.randrange(10)
    if kind == 0:
        more = chance.randrange(1, 1000)
        return [replaced(row, 3, row[3] + more) for row in rows]
    if kind == 1:
        chance.shuffle(rows)
        return rows
    if not rows:
        return rows
    at = chance.randrange(len(rows))
    if kind == 2:
        del rows[at]
    elif kind == 3:
        rows.insert(chance.randrange(len(rows) + 1), rows[at])
    elif kind == 4:
        rows.append(changed_claim(chance, rows[at]))
    elif kind == 5:
        # A line that is forgotten makes nothing worse where it does not hit.
        known = 1 + chance.randrange(2)
        line = chance.choice([pair[0] for row in rows for pair in row[known]] or [0])
        rows = [replaced(row, known, [pair for pair in row[known] if pair[0] != line]) for row in rows]
    else:
        rows[at] = changed_claim(chance, rows[at])
    return rows


def changed_record(chance, record):
    start, last, rows, sections = record
    kind = chance.randrange(8)
    if kind == 0:
        return (start, chance.choice(["body", "operation"]), rows, sections)
    if kind == 1:
        return (start + chance.choice([-1, 1, 5000, -5000]), last, rows, sections)
    if kind < 5 and sections:
        sections = list(sections)
        at = chance.randrange(len(sections))
        e, o, inner = sections[at]
        kind = chance.randrange(8)
        if kind == 0:
            del sections[at]
        elif kind == 1:
            sections.insert(chance.randrange(len(sections) + 1), sections[at])
        elif kind == 2:
            chance.shuffle(sections)
        elif kind == 3:
            sections[at] = (e + chance.choice([-1, 1]), o, inner)
        elif kind == 4:
            sections[at] = (e, (o + 1) % 4, inner)
        else:
            sections[at] = (e, o, changed_claims(chance, inner))
        return (start, last, rows, sections)
    return (start, last, changed_claims(chance, rows), sections)


def changed_records(chance, rows):
    """A list of records with one change."""
    rows = list(rows)
    if not rows:
        return rows
    at = chance.randrange(len(rows))
    kind = chance.randrange(8)
    if kind == 0:
        del rows[at]
    elif kind == 1:
        rows.insert(chance.randrange(len(rows) + 1), rows[at])
    elif kind == 2:
        rows.insert(chance.randrange(len(rows)), rows.pop(at))
    else:
        rows[at] = changed_record(chance, rows[at])
    return rows


def changed_verdict(chance, verdict):
    """A verdict with one change."""
    tag, admitted, slack, rows = verdict
    kind = chance.randrange(10)
    if kind == 0:
        return (tag, not admitted, slack, rows)
    if kind == 1:
        return (tag, admitted, slack + chance.choice([-1, 1]), rows)
    if not rows:
        return verdict
    rows = list(rows)
    at = chance.randrange(len(rows))
    if kind == 2:
        return (tag, admitted, slack, chance.choice([rows[1:], rows[::-1], rows + rows[:1], rows[:at] + rows[at + 1:]]))
    number, own, blocked, above, response = rows[at]
    if kind == 3:
        rows[at] = (number + chance.choice([-1, 1]), own, blocked, above, response)
    elif kind < 6:
        item = chance.choice([1, 2])
        rows[at] = replaced(rows[at], item, rows[at][item] + chance.choice([-1, 1]))
    elif kind == 6:
        fitting = None if response is None else response + chance.choice([-1, 1, 1, 5])
        rows[at] = (number, own, blocked, above, chance.choice([fitting, fitting, 0, -1, 4194304, None]))
    elif kind == 7 and above:
        rows[at] = (number, own, blocked, chance.choice([above[1:], above[:-1], above + above[:1], above[::-1]]), response)
    elif above:
        pair = chance.randrange(len(above))
        every, cost = above[pair]
        fresh = (every + chance.choice([-1, 1]), cost) if kind == 8 else (every, cost + chance.choice([-1, 1]))
        rows[at] = (number, own, blocked, above[:pair] + [fresh] + above[pair + 1:], response)
    return (tag, admitted, slack, rows)
