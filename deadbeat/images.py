"""Programs as code: the routines of a program, one behind the other."""

from deadbeat.codes import DATA_WORDS
from deadbeat.cpu import COUNTERS, RETURN_REGISTER
from deadbeat.errors import CodeError
from deadbeat.exprs import expression_code
from deadbeat.layout import data_size, find_group, layout
from deadbeat.rules import find
from deadbeat.stmts import Coder, Target

MOST_CODE = 4096
FILLER = ("set", 0, 0)


def build(program, code_line, data_line):
    """The image of a program for the line sizes of the two caches."""
    target = Target(program, layout(program, data_line))
    code = []
    routines = []
    for routine in _routines(program):
        code.extend([FILLER] * (-len(code) % code_line))
        if routine[0] == "operation":
            target.entries[routine[1:]] = len(code)
        coder = Coder(target, routine, len(code))
        _compile_routine(coder, routine)
        routines.append((routine, len(code), len(coder.code)))
        code.extend(coder.code)
    if len(code) > MOST_CODE or data_size(target.groups) > DATA_WORDS or target.counter > COUNTERS:
        raise CodeError(len(code))
    return ("image", code, routines, target.groups)


def _routines(program):
    """The routines of a program in the order in which they are placed, operations ahead of all that call them."""
    _, _, _, objects, tasks, interrupts = program
    found = []
    for o in reversed(range(len(objects))):
        found.extend([("operation", o, k) for k in range(len(objects[o][3]))])
    found.extend([("task", t) for t in range(len(tasks))])
    found.extend([("interrupt", i) for i in range(len(interrupts))])
    return found


def _compile_routine(coder, routine):
    _, _, _, objects, tasks, interrupts = coder.target.program
    match routine:
        case ("operation", o, k):
            _compile_operation(coder, objects[o][3][k], find_group(coder.target.groups, routine))
        case ("task", t):
            coder.clear(find_group(coder.target.groups, routine)[3])
            coder.body(tasks[t][5])
            coder.code.append(("done",))
        case ("interrupt", i):
            _, _, _, _, thing, operation, given = interrupts[i]
            at = find(objects, thing)
            coder.constant_call(at, find(objects[at][3], operation), given)
            coder.code.append(("done",))


def _compile_operation(coder, operation, group):
    _, _, _, _, body, result = operation
    _, _, _, cells, _, result_word, back = group
    coder.code.append(("store", RETURN_REGISTER, back))
    coder.clear(cells)
    coder.body(body)
    if result is not None:
        coder.code.extend(expression_code(coder.names, result, 1))
        coder.code.append(("store", 1, result_word))
    coder.code.extend([("load", RETURN_REGISTER, back), ("back",)])


def entry(image, routine):
    """The code address at which a routine starts."""
    for placed, start, _ in image[2]:
        if placed == routine:
            return start


def routine_at(image, address):
    """The routine whose code contains an address, or None if there is none."""
    for routine, start, length in image[2]:
        if start <= address < start + length:
            return routine
    return None


def watches(image):
    """For each operation, by its entry, the addresses that tell what a call is given and what it leaves."""
    _, _, routines, groups = image
    found = {}
    for routine, start, _ in routines:
        if routine[0] == "operation":
            found[start] = _watch(groups, routine)
    return found


def _watch(groups, routine):
    _, _, params, _, _, result, _ = find_group(groups, routine)
    left = [] if result is None else [result]
    for _, at, many in find_group(groups, ("object", routine[1]))[3]:
        left.extend(list(range(at, at + max(many, 1))))
    return ([at for _, at, _ in params], left)
