"""The graph of a routine: which address can follow which, and which objects are entered there."""

from deadbeat.errors import CodeError

ENDINGS = ("back", "done")


def successors(code, p):
    """The addresses that can follow an address inside its routine, ascending."""
    instruction = code[p]
    match instruction[0]:
        case "back" | "done":
            return []
        case "jump":
            return [instruction[1]]
        case "jzero" | "again":
            return sorted({p + 1, instruction[2]})
        case _:
            return [p + 1]


def graph(code, start):
    """For each address that is reached, ascending, the objects that are entered there. Raises CodeError."""
    _demand(0 <= start < len(code), start)
    stacks = {start: ()}
    waiting = [start]
    while waiting:
        p = waiting.pop()
        _check_instruction(code, start, code[p], stacks[p])
        stack = _stack_behind(code[p], stacks[p])
        for q in successors(code, p):
            _demand(0 <= q < len(code), start)
            if q not in stacks:
                stacks[q] = stack
                waiting.append(q)
            _demand(stacks[q] == stack, start)
    endings = [code[p][0] for p in stacks if code[p][0] in ENDINGS]
    _demand(("back" in endings) != ("done" in endings), start)
    return {p: stacks[p] for p in sorted(stacks)}


def _demand(holds, start):
    """Says that the routine at an address is not well formed if a condition does not hold."""
    if not holds:
        raise CodeError(start)


def _check_instruction(code, start, instruction, stack):
    """Checks an instruction of the routine at an address, with the objects that are entered there."""
    match instruction:
        case ("link", callee):
            _demand(0 <= callee < len(code), start)
        case ("enter", o):
            _demand(o not in stack, start)
        case ("leave", o):
            _demand(stack[-1:] == (o,), start)
        case ("back",) | ("done",):
            _demand(stack == (), start)


def _stack_behind(instruction, stack):
    """The objects that are entered behind an instruction."""
    if instruction[0] == "enter":
        return stack + (instruction[1],)
    if instruction[0] == "leave":
        return stack[:-1]
    return stack


def ending(code, start):
    """Whether a routine is a body, which ends with done, or an operation, which ends with back."""
    for p in graph(code, start):
        if code[p][0] == "done":
            return "body"
    return "operation"
