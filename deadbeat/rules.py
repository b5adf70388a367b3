"""Which programs are valid, and which objects their tasks and interrupts use."""

from deadbeat.errors import RuleError
from deadbeat.parsing import LONGEST_TIME, MOST_CELLS, MOST_ROUNDS
from deadbeat.tokens import DIGITS, LETTERS, LONGEST_NAME, is_reserved
from deadbeat.trees import depth, parts, statements

MOST_PORTS = 8
MOST_OBJECTS = 4
MOST_TASKS = 8
MOST_INTERRUPTS = 2
MOST_OPERATIONS = 4
MOST_PARAMS = 4
MOST_DECLARED = 16
MOST_STATEMENTS = 200
DEEPEST_LIST = 8
DEEPEST_LOOP = 4
MOST_PARTS = 40
DEEPEST = 6
DEEPEST_ARGUMENT = 4
# What a name in a scope stands for. A loop variable is a single cell that can only be read.
SINGLE = 0
ARRAY = 1
VARIABLE = 2
# A task has no object. All objects stand behind this index, so a task can call all of them.
NO_OBJECT = -1


def find(rows, name):
    """The index of the first tuple in a list whose item 1 is the name, or -1."""
    for at, row in enumerate(rows):
        if row[1] == name:
            return at
    return -1


def check(program):
    """Raises RuleError with the rule that decides if the program is not valid."""
    _, name, ports, objects, tasks, interrupts = program
    _check_name(name, [])
    for kind in ("in", "out"):
        _demand(len([port for port in ports if port[0] == kind]) <= MOST_PORTS, "size")
    names = []
    for _, port in ports:
        _check_name(port, names)
        names.append(port)
    _demand(len(objects) <= MOST_OBJECTS, "size")
    for at, thing in enumerate(objects):
        _check_object(program, at, names)
        names.append(thing[1])
    _demand(len(tasks) <= MOST_TASKS, "size")
    for task in tasks:
        _check_task(program, task, names)
        names.append(task[1])
    _demand(len(interrupts) <= MOST_INTERRUPTS, "size")
    for interrupt in interrupts:
        _check_interrupt(program, interrupt, names)
        names.append(interrupt[1])


def _demand(holds, rule):
    if not holds:
        raise RuleError(rule)


def _check_name(name, taken):
    """Checks a string that is declared where some names are taken."""
    _demand(_is_name(name) and name not in taken, "name")


def _is_name(text):
    if not 1 <= len(text) <= LONGEST_NAME or text[0] not in LETTERS or is_reserved(text):
        return False
    return all([character in LETTERS or character in DIGITS or character == "_" for character in text])


def _check_object(program, own, taken):
    _, name, fields, operations = program[3][own]
    _demand(len(fields) <= MOST_DECLARED and len(operations) <= MOST_OPERATIONS, "size")
    _check_name(name, taken)
    scope = _with_cells({}, fields)
    names = []
    for operation in operations:
        _check_operation(program, own, operation, scope, names)
        names.append(operation[1])


def _check_operation(program, own, operation, fields, taken):
    _, name, params, cells, body, result = operation
    _demand(len(params) <= MOST_PARAMS and len(cells) <= MOST_DECLARED, "size")
    _check_name(name, taken)
    scope = fields
    for param in params:
        scope = _with_name(scope, param, SINGLE)
    scope = _with_cells(scope, cells)
    _check_body(program, own, body, scope)
    if result is not None:
        _check_expression(result, DEEPEST, scope)


def _check_task(program, task, taken):
    _, name, every, within, cells, body = task
    _demand(len(cells) <= MOST_DECLARED and _are_times(every, within), "size")
    _check_name(name, taken)
    _check_body(program, NO_OBJECT, body, _with_cells({}, cells))


def _check_interrupt(program, interrupt, taken):
    _, name, every, within, thing, operation, given = interrupt
    _demand(_are_times(every, within), "size")
    _check_name(name, taken)
    _check_call(program, NO_OBJECT, thing, operation, given)


def _are_times(every, within):
    return 1 <= within <= every <= LONGEST_TIME


def _with_name(scope, name, kind):
    """The scope with one more name in it. A scope maps names to what they stand for."""
    _check_name(name, scope)
    return {**scope, name: kind}


def _with_cells(scope, cells):
    """The scope with fields or locals in it."""
    for name, many in cells:
        _demand(0 <= many <= MOST_CELLS, "size")
        scope = _with_name(scope, name, SINGLE if many == 0 else ARRAY)
    return scope


def _check_body(program, own, body, scope):
    _demand(_fits(body), "size")
    _check_statements(program, own, body, scope)


def _fits(body):
    """Whether a body keeps the limits for its statements, their nesting and its loops."""
    many = 0
    waiting = [(body, 1, 0)]
    while waiting:
        rows, lists, loops = waiting.pop()
        if lists > DEEPEST_LIST or loops > DEEPEST_LOOP:
            return False
        many += len(rows)
        for statement in rows:
            if statement[0] == "if":
                waiting.append((statement[2], lists + 1, loops))
                waiting.append((statement[3], lists + 1, loops))
            elif statement[0] == "loop":
                waiting.append((statement[4], lists + 1, loops + 1))
    return many <= MOST_STATEMENTS


def _check_statements(program, own, rows, scope):
    for statement in rows:
        for e, deepest in _expressions(statement):
            _check_expression(e, deepest, scope)
        _check_statement(program, own, statement, scope)


def _expressions(statement):
    """Pairs of an expression of a statement and its greatest depth, in the order in which they are evaluated."""
    match statement:
        case ("set", place, value):
            return [(value, DEEPEST)] + _index(place)
        case ("if", value, _, _):
            return [(value, DEEPEST)]
        case ("write", _, value):
            return [(value, DEEPEST)]
        case ("loop", _, _, value, _):
            return [] if value is None else [(value, DEEPEST)]
        case ("read", place, _):
            return _index(place)
        case ("call", place, _, _, given):
            return [(argument, DEEPEST_ARGUMENT) for argument in given] + _index(place)


def _index(place):
    """The expression in a place, in a list, or an empty list if there is none."""
    if place is None or place[0] == "cell":
        return []
    return [(place[2], DEEPEST)]


def _check_expression(e, deepest, scope):
    found = parts(e)
    _demand(len(found) <= MOST_PARTS and depth(e) <= deepest, "size")
    for part in found:
        if part[0] == "cell":
            _demand(scope.get(part[1]) in (SINGLE, VARIABLE), "cell")
        elif part[0] == "at":
            _demand(scope.get(part[1]) == ARRAY, "cell")


def _check_statement(program, own, statement, scope):
    """Checks the own rules of a statement, and then the statements inside it."""
    match statement:
        case ("set", place, _):
            _check_place(place, scope)
        case ("if", _, then, other):
            _check_statements(program, own, then, scope)
            _check_statements(program, own, other, scope)
        case ("loop", name, count, _, body):
            _demand(1 <= count <= MOST_ROUNDS, "size")
            _check_statements(program, own, body, _with_name(scope, name, VARIABLE))
        case ("call", place, thing, operation, given):
            _check_place(place, scope)
            _check_call(program, own, thing, operation, given)
        case ("read", place, port):
            _check_place(place, scope)
            _check_port(program, own, ("in", port))
        case ("write", port, _):
            _check_port(program, own, ("out", port))


def _check_place(place, scope):
    if place is not None:
        wanted = SINGLE if place[0] == "cell" else ARRAY
        _demand(scope.get(place[1]) == wanted, "cell")


def _check_port(program, own, port):
    """Checks a read or a write of a port in an operation of an object or in a task."""
    _demand(own == NO_OBJECT and port in program[2], "port")


def _check_call(program, own, thing, operation, given):
    """Checks a call in an operation of an object, in a task or of an interrupt."""
    objects = program[3]
    at = find(objects, thing)
    # A name that is missing has the index -1, which is not greater either.
    _demand(at > own, "call")
    operations = objects[at][3]
    number = find(operations, operation)
    _demand(number >= 0 and len(operations[number][2]) == len(given), "call")


def reached(program):
    """For each object, the ascending list of the indexes of the objects that it reaches."""
    objects = program[3]
    found = [[] for _ in objects]
    # An object calls later ones only, so what these reach is known before.
    for at in reversed(range(len(objects))):
        near = [at]
        for operation in objects[at][3]:
            near.extend(_reached_by(program, operation[4], found))
        found[at] = sorted(set(near))
    return found


def used(program):
    """For each task and then each interrupt, the ascending list of the indexes of the objects that it uses."""
    found = reached(program)
    by_tasks = [sorted(set(_reached_by(program, task[5], found))) for task in program[4]]
    by_interrupts = [list(found[find(program[3], interrupt[4])]) for interrupt in program[5]]
    return by_tasks + by_interrupts


def _reached_by(program, body, found):
    """The indexes of the objects that the calls of a body reach, if it is known what each object reaches."""
    indexes = []
    for statement in statements(body):
        if statement[0] == "call":
            indexes.extend(found[find(program[3], statement[2])])
    return indexes
