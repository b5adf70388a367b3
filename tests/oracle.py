"""Another execution of programs, by generators and recursion, with which the program is compared."""

from deadbeat.words import alter, combine


def value(e, names):
    if e[0] == "num":
        return e[1]
    if e[0] == "cell":
        return names[e[1]][0]
    if e[0] == "at":
        words = names[e[1]]
        return words[value(e[2], names) % len(words)]
    if len(e) == 2:
        return alter(e[0], value(e[1], names))
    return combine(e[0], value(e[1], names), value(e[2], names))


def store(place, word, names):
    if place is not None:
        words = names[place[1]]
        words[0 if place[0] == "cell" else value(place[2], names) % len(words)] = word


def cells(rows):
    return {name: [0] * (size or 1) for name, size in rows}


def index(rows, name):
    return [row[1] for row in rows].index(name)


def actions(program, rows, names):
    """Executes statements. Yields the actions and expects their answers."""
    for row in rows:
        if row[0] == "set":
            store(row[1], value(row[2], names), names)
        elif row[0] == "if":
            yield from actions(program, row[2] if value(row[1], names) else row[3], names)
        elif row[0] == "loop":
            for number in range(row[2]):
                if row[3] is not None and not value(row[3], names):
                    break
                yield from actions(program, row[4], {**names, row[1]: [number]})
        elif row[0] == "call":
            thing = index(program[3], row[2])
            word = yield ("call", thing, index(program[3][thing][3], row[3]), [value(e, names) for e in row[4]])
            store(row[1], word, names)
        elif row[0] == "read":
            word = yield ("read", index([port for port in program[2] if port[0] == "in"], row[2]))
            store(row[1], word, names)
        else:
            ports = [port for port in program[2] if port[0] == "out"]
            yield ("write", index(ports, row[1]), value(row[2], names))


def job_actions(program, who):
    """The actions of a job up to ("done",)."""
    if who < len(program[4]):
        _, _, _, _, rows, body = program[4][who]
        yield from actions(program, body, cells(rows))
    else:
        _, _, _, _, name, called, given = program[5][who - len(program[4])]
        thing = index(program[3], name)
        yield ("call", thing, index(program[3][thing][3], called), given)
    yield ("done",)


def call(program, fields, thing, called, given):
    """Executes an operation and changes the fields. Returns the result."""
    _, _, params, rows, body, result = program[3][thing][3][called]
    names = {name: words for (name, _), words in zip(program[3][thing][2], fields[thing])}
    names.update({name: [word] for name, word in zip(params, given)})
    names.update(cells(rows))
    running = actions(program, body, names)
    answer = None
    while True:
        try:
            action = running.send(answer)
        except StopIteration:
            return 0 if result is None else value(result, names)
        answer = call(program, fields, *action[1:])


class Run:
    """Jobs that are executed action by action."""

    def __init__(self, program, jobs, inputs):
        self.program = program
        self.fields = [list(cells(thing[2]).values()) for thing in program[3]]
        self.inputs = [list(words) for words in inputs]
        self.outputs = [[] for port in program[2] if port[0] == "out"]
        self.reads = [0 for port in program[2] if port[0] == "in"]
        self.running = [job_actions(program, who) for who in jobs]
        self.answers = [None for _ in jobs]
        self.record = []

    def go_on(self, job):
        """Performs the next action of a job and records it, if the job is not done."""
        if self.running[job] is not None:
            action = self.running[job].send(self.answers[job])
            self.answers[job] = None
            self.record.append((job,) + getattr(self, action[0])(job, *action[1:]))

    def read(self, job, port):
        self.reads[port] += 1
        self.answers[job] = self.inputs[port].pop(0) if self.inputs[port] else 0
        return ("read", port, self.answers[job])

    def write(self, job, port, word):
        self.outputs[port].append(word)
        return ("write", port, word)

    def call(self, job, thing, called, given):
        self.answers[job] = call(self.program, self.fields, thing, called, given)
        return ("call", thing, called, list(given), self.answers[job])

    def done(self, job):
        self.running[job] = None
        return ("done",)
