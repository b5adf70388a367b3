"""The greatest cost of a path round by round (point 18.1), and the conditions for claims edge by edge (point 18.3)."""

from deadbeat.longest import edge_cost, place_cost
from deadbeat.must import after
from tests import naive


def is_end(code, ends, p):
    return p in ends or code[p][0] in ("back", "done")


def greatest(machine, code, found, first, ends, called, known):
    """The greatest cost of a path from a place to an end address: all paths are tried, with the numbers of the rounds."""
    bounds = {head: many for head, _, many, _ in found}
    tails = {tail: head for head, tail, _, _ in found}

    def onward(place, rounds):
        """Pairs of the cost of an edge and what is behind it. Loops in which the path begins have no rounds."""
        p, rows = place[0], []
        for q in [] if is_end(code, ends, p) else naive.following(code, p):
            now = dict(rounds)
            if p in tails and tails[p] in now and (now[tails[p]] < bounds[tails[p]]) != (q == tails[p]):
                continue
            if q <= p:
                now[q] += 1
            elif q in bounds and q not in naive.heads(found, p):
                now[q] = 1
            left = tuple((head, number) for head, number in now.items() if head in naive.heads(found, q))
            rows.append((edge_cost(machine, code, p, q), (naive.next_place(found, place, q), left)))
        return rows

    values, waiting = {}, [(first, ())]
    while waiting:
        place, rounds = waiting[-1]
        rows = onward(place, rounds)
        missing = [behind for _, behind in rows if behind not in values]
        waiting.extend(missing)
        if not missing:
            cost = place_cost(machine, code, place[0], *known[place], called)
            values[waiting.pop()] = cost + max([edge + values[behind] for edge, behind in rows], default=0)
    return values[first, ()]


def check_form(case, machine, rows):
    """The form of claims, apart from what they say."""
    shapes = machine[:2]
    case.assertIsInstance(rows, list)
    case.assertEqual([row[0] for row in rows], sorted({row[0] for row in rows}))
    for place, known_code, known_data, base, weights in rows:
        case.assertIs(type(base), int)
        case.assertIs(type(weights), tuple)
        case.assertEqual(len(weights), len(place[1]))
        for weight, turn in zip(weights, place[1]):
            case.assertGreaterEqual(weight, 0)
            if turn == 0:
                case.assertEqual(weight, 0)
        for known, shape in ((known_code, shapes[0]), (known_data, shapes[1])):
            case.assertIs(type(known), list)
            case.assertEqual(known, sorted(dict(known).items()))
            case.assertTrue(all(0 <= age < shape[1] for _, age in known))


def check_claims(case, machine, code, found, first, ends, called, rows):
    """The form of claims, and the conditions under which they are right."""
    check_form(case, machine, rows)
    table = {row[0]: row for row in rows}
    case.assertEqual(sorted(table), naive.all_places(code, found, first, ends))
    case.assertEqual(table[first][1:3], ([], []))
    for place, known_code, known_data, base, weights in rows:
        cost = place_cost(machine, code, place[0], dict(known_code), dict(known_data), called)
        if is_end(code, ends, place[0]):
            case.assertGreaterEqual(base + sum(weights), cost)
            continue
        passed = after(machine, code, place[0], dict(known_code), dict(known_data))
        for q in naive.following(code, place[0]):
            target = table[naive.next_place(found, place, q)]
            for old, new in zip(passed, target[1:3]):
                for line, age in new:
                    case.assertLessEqual(old.get(line, 99), age)
            check_edge(case, found, table[place], target, cost + edge_cost(machine, code, place[0], q))


def check_edge(case, found, claim, target, cost):
    (p, turns), _, _, base, weights = claim
    (q, _), _, _, other_base, other_weights = target
    bounds = {head: many for head, _, many, _ in found}
    tails = {tail: head for head, tail, _, _ in found}
    before = {head: (turn, weight) for head, turn, weight in zip(naive.heads(found, p), turns, weights)}
    behind = dict(zip(naive.heads(found, q), other_weights))
    gain = owed = 0
    asked = True
    for head, (turn, weight) in before.items():
        if head not in behind:
            gain += weight * turn
        elif not (q <= p and head == q and turn == 0):
            case.assertEqual(weight, behind[head])
    if q <= p:
        if before[q][0] == 1:
            gain += before[q][1]
        else:
            owed = behind[q] * (bounds[q] - 1)
            asked = bounds[q] != 1
    elif p in tails and before[tails[p]][0] == 0 and bounds[tails[p]] != 1:
        asked = False
    if asked:
        case.assertGreaterEqual(base + gain, cost + other_base + owed)
