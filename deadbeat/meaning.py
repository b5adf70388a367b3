"""What programs mean: the execution of expressions, operations and jobs."""

from deadbeat.rules import find
from deadbeat.trees import parts
from deadbeat.words import alter, combine


def fresh_fields(program):
    """The initial fields: for each object a list with a list of words for each field."""
    return [[_zeros(many) for _, many in thing[2]] for thing in program[3]]


def _zeros(many):
    """The words of a single cell, whose size is 0, or of an array."""
    return [0] * max(many, 1)


def evaluate(e, names):
    """The value of an expression, with a dict from names to lists of words."""
    values = []
    for part in parts(e):
        kind = part[0]
        if kind == "num":
            values.append(part[1])
        elif kind == "cell":
            values.append(names[part[1]][0])
        elif kind == "at":
            words = names[part[1]]
            values.append(words[values.pop() % len(words)])
        elif len(part) == 2:
            values.append(alter(kind, values.pop()))
        else:
            right = values.pop()
            values.append(combine(kind, values.pop(), right))
    return values[0]


def port_number(program, kind, name):
    """The number of a port among the ports of its kind."""
    return find([port for port in program[2] if port[0] == kind], name)


def perform(program, fields, at, operation, args):
    """The result of an operation that is called with a list of words, and the new fields."""
    world = World(program, fields, [])
    result = world.execute(at, operation, args)
    return (result, world.fields)


def run_alone(program, who, fields, inputs):
    """Executes a job without interference: its actions with their answers, the new fields, the remaining inputs."""
    world = World(program, fields, inputs)
    job = Job(program, who)
    actions = [world.serve(job)]
    while actions[-1] != ("done",):
        actions.append(world.serve(job))
    return (actions, world.fields, world.inputs)


class Job:
    """The execution of one job, from one action to the next."""

    def __init__(self, program, who):
        tasks = program[4]
        if who < len(tasks):
            _, _, _, _, cells, body = tasks[who]
        else:
            cells = []
            body = [_interrupt_call(program[5][who - len(tasks)])]
        self.walk = Walk(_numbered(program, body), {name: _zeros(many) for name, many in cells})

    def action(self):
        """The next action."""
        return self.walk.next_action()

    def answer(self, word):
        """Performs the action; a read and a call get a word."""
        self.walk.go_on(word)


def _interrupt_call(interrupt):
    """The statement that the job of an interrupt executes."""
    _, _, _, _, thing, operation, given = interrupt
    return ("call", None, thing, operation, [("num", word) for word in given])


def _numbered(program, body):
    """A body with numbers in place of the names of ports, objects and operations. It shares no list with the body."""
    return [_numbered_statement(program, statement) for statement in body]


def _numbered_statement(program, statement):
    match statement:
        case ("if", e, then, other):
            return ("if", e, _numbered(program, then), _numbered(program, other))
        case ("loop", name, count, e, inside):
            return ("loop", name, count, e, _numbered(program, inside))
        case ("call", place, thing, operation, given):
            at = find(program[3], thing)
            return ("call", place, at, find(program[3][at][3], operation), list(given))
        case ("read", place, port):
            return ("read", place, port_number(program, "in", port))
        case ("write", port, e):
            return ("write", port_number(program, "out", port), e)
        case _:
            return statement


class Walk:
    """The execution of a body, from one action to the next. It changes the words of the names."""

    def __init__(self, body, names):
        self.names = names
        # What is still to be executed, the next one last.
        self.waiting = body[::-1]
        self.current = ("done",)
        # The place in which the answer of the action is stored.
        self.target = None
        self.walk_on()

    def next_action(self):
        """The action at which the execution stands."""
        if self.current[0] == "call":
            _, at, operation, given = self.current
            return ("call", at, operation, list(given))
        return self.current

    def go_on(self, word):
        """Performs the action with its answer, and executes what follows up to the next action."""
        if self.target is not None:
            self.store(self.target, word)
        self.current = ("done",)
        self.target = None
        self.walk_on()

    def walk_on(self):
        """Executes statements up to the next action."""
        while self.waiting and self.current == ("done",):
            self.execute(self.waiting.pop())

    def value(self, e):
        """The value of an expression at this point."""
        return evaluate(e, self.names)

    def store(self, place, word):
        """Stores a word in a place."""
        words = self.names[place[1]]
        if place[0] == "cell":
            words[0] = word
        else:
            words[self.value(place[2]) % len(words)] = word

    def execute(self, statement):
        """Executes a statement, or begins to, if there are statements inside it or if it is an action."""
        match statement:
            case ("set", place, e):
                self.store(place, self.value(e))
            case ("if", e, then, other):
                self.waiting.extend(other[::-1] if self.value(e) == 0 else then[::-1])
            case ("loop", _, _, _, _):
                self.begin_round(statement, 0)
            case ("round", loop, number):
                self.begin_round(loop, number)
            case ("read", place, port):
                self.current = ("read", port)
                self.target = place
            case ("write", port, e):
                self.current = ("write", port, self.value(e))
            case ("call", place, at, operation, given):
                self.current = ("call", at, operation, [self.value(argument) for argument in given])
                self.target = place

    def begin_round(self, loop, number):
        """Begins a round of a loop if there is one with this number."""
        _, name, count, e, body = loop
        if number < count and (e is None or self.value(e) != 0):
            self.names[name] = [number]
            self.waiting.append(("round", loop, number + 1))
            self.waiting.extend(body[::-1])


class World:
    """What jobs share: the fields of the objects, and the input words that are left."""

    def __init__(self, program, fields, inputs):
        self.program = program
        self.fields = [[list(words) for words in rows] for rows in fields]
        self.inputs = [list(words) for words in inputs]

    def serve(self, job):
        """Performs the next action of a job. Returns the action, a read and a call with the answer appended."""
        action = job.action()
        answer = 0
        if action[0] == "read":
            answer = self.take(action[1])
        elif action[0] == "call":
            answer = self.execute(action[1], action[2], action[3])
        job.answer(answer)
        if action[0] == "read" or action[0] == "call":
            return action + (answer,)
        return action

    def take(self, port):
        """The next input word of a port, which is removed, or 0 if there is none."""
        if len(self.inputs[port]) == 0:
            return 0
        return self.inputs[port].pop(0)

    def execute(self, at, operation, given):
        """Executes an operation with all operations that it calls. Returns its result."""
        _, _, fields, operations = self.program[3][at]
        _, _, params, cells, body, result = operations[operation]
        names = {name: words for (name, _), words in zip(fields, self.fields[at])}
        for name, word in zip(params, given):
            names[name] = [word]
        for name, many in cells:
            names[name] = _zeros(many)
        walk = Walk(_numbered(self.program, body), names)
        while walk.current != ("done",):
            _, called, number, arguments = walk.current
            walk.go_on(self.execute(called, number, arguments))
        if result is None:
            return 0
        return evaluate(result, names)
