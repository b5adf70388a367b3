"""Which lines are surely in the caches at a place of a routine."""

from deadbeat.loops import onward

LOADS = ("load", "loadx")
STORES = ("store", "storex")


def use_line(shape, known, number):
    """What is known of a cache after using a line."""
    _, ways, _ = shape
    # A line that is not known is as old as one that was just removed.
    age = known.get(number, ways)
    ages = _older(shape, known, [number], age)
    ages[number] = 0
    return ages


def use_some(shape, known, numbers):
    """What is known of a cache after using one of some lines, of which it is not said which one."""
    if len(set(numbers)) == 1:
        return use_line(shape, known, numbers[0])
    return _older(shape, known, numbers, shape[1])


def _older(shape, known, numbers, limit):
    """What is known after the ages below a limit have increased in the sets of some lines."""
    sets, ways, _ = shape
    changed = {number % sets: True for number in numbers}
    ages = {}
    for line, age in known.items():
        if line % sets in changed and age < limit:
            age += 1
        if age < ways:
            ages[line] = age
    return ages


def meet(known, other):
    """What is known of a cache where two paths meet."""
    return {line: max(age, other[line]) for line, age in known.items() if line in other}


def data_lines(shape, instruction):
    """The numbers of the data lines that an instruction may use, ascending."""
    size = shape[2]
    match instruction[0]:
        case "load" | "store":
            return [instruction[2] // size]
        case "loadx" | "storex":
            _, _, _, address, cells = instruction
            return list(range(address // size, (address + cells - 1) // size + 1))
        case _:
            return []


def after(processor, code, p, known_code, known_data):
    """What is known of the code cache and of the data cache after an instruction."""
    code_shape, data_shape, _ = processor
    if code[p][0] == "link":
        return ({}, {})
    used = use_line(code_shape, known_code, p // code_shape[2])
    return (used, _data_after(data_shape, code[p], known_data))


def _data_after(shape, instruction, known):
    """What is known of the data cache after an instruction."""
    lines = data_lines(shape, instruction)
    if len(lines) == 0:
        return dict(known)
    if instruction[0] in STORES and lines[0] not in known:
        # A store does not bring a line in that is not there.
        return _older(shape, known, lines, shape[1])
    return use_some(shape, known, lines)


def hits(processor, code, p, known_code, known_data):
    """Whether the fetch at an address surely hits, and whether its load does."""
    code_shape, data_shape, _ = processor
    fetch_hit = p // code_shape[2] in known_code
    if code[p][0] not in LOADS:
        return (fetch_hit, True)
    return (fetch_hit, all([line in known_data for line in data_lines(data_shape, code[p])]))


def known_from(processor, code, found, place, ends):
    """What is known of both caches at each place that can be reached from a place, at which nothing is known."""
    behind = onward(code, found, place, ends)
    known = {place: ({}, {})}
    waiting = {place: True}
    while waiting:
        for here in behind:
            if here in waiting:
                del waiting[here]
                passed = after(processor, code, here[0], known[here][0], known[here][1])
                for there in behind[here]:
                    if _arrive(known, there, passed):
                        waiting[there] = True
    # Places of straight code share what is known, so each gets dicts of its own.
    return {here: (dict(known[here][0]), dict(known[here][1])) for here in behind}


def _arrive(known, there, passed):
    """Brings what an edge passes on to a place. Returns whether what is known there has changed."""
    if there not in known:
        known[there] = passed
        return True
    before = known[there]
    known[there] = (meet(before[0], passed[0]), meet(before[1], passed[1]))
    return known[there] != before
