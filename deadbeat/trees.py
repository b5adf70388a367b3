"""Expressions, statements and programs, and their written form."""

from deadbeat.words import decimal

# The greater the number, the tighter the operator binds.
TIGHTNESS = {
    "or": 1,
    "and": 2,
    "|": 3,
    "^": 4,
    "&": 5,
    "==": 6, "!=": 6,
    "<": 7, "<=": 7, "~<": 7, "~<=": 7,
    "<<": 8, ">>": 8,
    "+": 9, "-": 9,
    "*": 10, "/": 10, "mod": 10,
}
TIGHTEST = 10
UNARY_SIGNS = {"neg": "-", "inv": "~", "not": "!"}


def tightness(operator):
    """How tightly a binary operator binds, from 1 on, or 0 for anything else."""
    return TIGHTNESS.get(operator, 0)


# A chain of operators in a text makes a tree as deep as the chain is long, far deeper than Python can recurse.
# So the functions over expressions keep a list of what is still to be done.


def depth(e):
    """The depth of an expression."""
    deepest = 0
    waiting = [(e, 1)]
    while waiting:
        part, level = waiting.pop()
        deepest = max(deepest, level)
        for operand in _operands(part):
            waiting.append((operand, level + 1))
    return deepest


def size(e):
    """The number of expressions in an expression, itself included."""
    return len(parts(e))


def parts(e):
    """All expressions in an expression, itself included, in the order in which they are evaluated."""
    found = []
    waiting = [e]
    while waiting:
        part = waiting.pop()
        found.append(part)
        waiting.extend(_operands(part))
    # So far each part stands ahead of its operands, and these from right to left.
    return found[::-1]


def _operands(e):
    """The expressions directly in an expression."""
    kind = e[0]
    if kind == "num" or kind == "cell":
        return []
    if kind == "at":
        return [e[2]]
    return list(e[1:])


def write_expression(e):
    """The written form of an expression."""
    written = []
    waiting = [e]
    while waiting:
        piece = waiting.pop()
        if isinstance(piece, str):
            written.append(piece)
        else:
            waiting.extend(_pieces(piece)[::-1])
    return "".join(written)


def _pieces(e):
    """The strings and the expressions that make up the written form of an expression, in order."""
    kind = e[0]
    if kind == "num":
        return [decimal(e[1])]
    if kind == "cell":
        return [e[1]]
    if kind == "at":
        return [e[1], "[", e[2], "]"]
    if kind in UNARY_SIGNS:
        return [UNARY_SIGNS[kind]] + _operand_pieces(e[1], TIGHTEST)
    own = tightness(kind)
    return _operand_pieces(e[1], own - 1) + [f" {kind} "] + _operand_pieces(e[2], own)


def _operand_pieces(e, limit):
    """An operand, in parentheses if it is an operator expression that binds no tighter than the limit."""
    if 1 <= tightness(e[0]) <= limit:
        return ["(", e, ")"]
    return [e]


def statements(body):
    """All statements of a body, those inside other statements included, in the order of their first lines."""
    found = []
    waiting = _copied(body)[::-1]
    while waiting:
        statement = waiting.pop()
        found.append(statement)
        waiting.extend(_inside(statement)[::-1])
    return found


def _inside(statement):
    """The statements directly inside a statement."""
    if statement[0] == "if":
        return statement[2] + statement[3]
    if statement[0] == "loop":
        return statement[4]
    return []


def _copied(body):
    return [_copied_statement(statement) for statement in body]


def _copied_statement(statement):
    """An equal statement that shares no list with the given one."""
    kind = statement[0]
    if kind == "if":
        _, e, then, other = statement
        return ("if", e, _copied(then), _copied(other))
    if kind == "loop":
        _, name, count, e, body = statement
        return ("loop", name, count, e, _copied(body))
    if kind == "call":
        _, place, thing, operation, given = statement
        return ("call", place, thing, operation, list(given))
    return statement


def copied_program(program):
    """An equal program that shares no list with the given one."""
    _, name, ports, objects, tasks, interrupts = program
    return (
        "system", name, list(ports), [_copied_object(thing) for thing in objects],
        [("task", task[1], task[2], task[3], list(task[4]), _copied(task[5])) for task in tasks],
        [interrupt[:6] + (list(interrupt[6]),) for interrupt in interrupts],
    )


def _copied_object(thing):
    _, name, fields, operations = thing
    return ("object", name, list(fields), [_copied_operation(operation) for operation in operations])


def _copied_operation(operation):
    _, name, params, cells, body, result = operation
    return ("operation", name, list(params), list(cells), _copied(body), result)


def write_program(program):
    """The written form of a program."""
    _, name, ports, objects, tasks, interrupts = program
    lines = [f"system {name}"]
    for kind, port in ports:
        lines.append(f"{kind} {port}")
    for thing in objects:
        lines.extend(_object_lines(thing))
    for task in tasks:
        lines.extend(_task_lines(task))
    for interrupt in interrupts:
        lines.append(_interrupt_line(interrupt))
    return "".join([line + "\n" for line in lines])


def _object_lines(thing):
    _, name, fields, operations = thing
    inside = _cell_lines(fields)
    for operation in operations:
        inside.extend(_operation_lines(operation))
    return _block(f"object {name}", inside)


def _operation_lines(operation):
    _, name, params, cells, body, result = operation
    inside = _cell_lines(cells) + _body_lines(body)
    if result is not None:
        inside.append(f"give {write_expression(result)};")
    return _block(f"operation {name}({_listed(params)})", inside)


def _task_lines(task):
    _, name, every, within, cells, body = task
    return _block(f"task {name} {_times(every, within)}", _cell_lines(cells) + _body_lines(body))


def _interrupt_line(interrupt):
    _, name, every, within, thing, operation, given = interrupt
    words = _listed([decimal(word) for word in given])
    return f"interrupt {name} {_times(every, within)} calls {thing}.{operation}({words})"


def _times(every, within):
    return f"every {decimal(every)} within {decimal(within)}"


def _block(first, inside):
    return [first] + _indented(inside) + ["end"]


def _indented(lines):
    return ["  " + line for line in lines]


def _listed(strings):
    return ", ".join(strings)


def _cell_lines(cells):
    return [_cell_line(name, many) for name, many in cells]


def _cell_line(name, many):
    if many == 0:
        return f"cell {name}"
    return f"cell {name}[{decimal(many)}]"


def _body_lines(body):
    lines = []
    for statement in body:
        lines.extend(_statement_lines(statement))
    return lines


def _statement_lines(statement):
    kind = statement[0]
    if kind == "if":
        return _if_lines(statement)
    if kind == "loop":
        return _loop_lines(statement)
    if kind == "call":
        return [_call_line(statement)]
    if kind == "write":
        _, port, e = statement
        return [f"write {port} {write_expression(e)};"]
    if kind == "read":
        _, place, port = statement
        return [f"{write_expression(place)} := read {port};"]
    _, place, e = statement
    return [f"{write_expression(place)} := {write_expression(e)};"]


def _if_lines(statement):
    _, e, then, other = statement
    lines = [f"if {write_expression(e)}"] + _indented(_body_lines(then))
    if len(other) > 0:
        lines = lines + ["else"] + _indented(_body_lines(other))
    return lines + ["end"]


def _loop_lines(statement):
    _, name, count, e, body = statement
    first = f"loop {name} to {decimal(count)}"
    if e is not None:
        first = f"{first} while {write_expression(e)}"
    return _block(first, _body_lines(body))


def _call_line(statement):
    _, place, thing, operation, given = statement
    arguments = _listed([write_expression(e) for e in given])
    call = f"{thing}.{operation}({arguments});"
    if place is None:
        return call
    return f"{write_expression(place)} := {call}"
