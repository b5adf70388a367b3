"""Valid programs that several tests use: small ones for one purpose, and random ones from fixed seeds."""

import random

from tests.samples import OPERATORS, UNARY, WORDS

EDGE_WORDS = WORDS + [2, 3, 31, 32, 63, 64]


def cell(name):
    return ("cell", name)


def num(word):
    return ("num", word)


def at(name, e):
    return ("at", name, e)


def put(name, e):
    """The statement that sets a single cell."""
    return ("set", cell(name), e)


def operation(name="f", params=(), cells=(), body=(), result=None):
    return ("operation", name, list(params), list(cells), list(body), result)


def shared(name, fields=(), operations=()):
    return ("object", name, list(fields), list(operations))


def task(name="t", body=(), cells=(), every=900, within=800):
    return ("task", name, every, within, list(cells), list(body))


def interrupt(name, thing, called, given=(), every=900, within=800):
    return ("interrupt", name, every, within, thing, called, list(given))


def system(*, name="s", ports=(), objects=(), tasks=(), interrupts=()):
    return ("system", name, list(ports), list(objects), list(tasks), list(interrupts))


class ValidMaker:
    """Makes random valid programs, whose loops have few rounds in all."""

    def __init__(self, seed):
        self.random = random.Random(seed)
        self.ports = []
        self.objects = []
        self.number = 0

    def many(self, most):
        return self.random.randrange(most + 1)

    def name(self):
        """A name that occurs nowhere else."""
        self.number += 1
        return f"{self.random.choice('abcXYZ')}{self.number}"

    def cells(self):
        return [(self.name(), self.random.choice([0, 0, 1, 2, 3, 5])) for _ in range(self.many(3))]

    def expression(self, scope, deep):
        """An expression at most this deep. A scope is a dict from names to "cell", "at" or "loop"."""
        single = [name for name, kind in scope.items() if kind != "at"]
        arrays = [name for name, kind in scope.items() if kind == "at"]
        kinds = ["num"] + ["cell"] * (3 if single else 0)
        if deep > 1:
            kinds += UNARY + self.random.sample(OPERATORS, 5) + ["at"] * (4 if arrays else 0)
        kind = self.random.choice(kinds)
        if kind == "num":
            return num(self.random.choice(EDGE_WORDS))
        if kind == "cell":
            return cell(self.random.choice(single))
        if kind == "at":
            return at(self.random.choice(arrays), self.expression(scope, deep - 1))
        if kind in UNARY:
            return (kind, self.expression(scope, deep - 1))
        return (kind, self.expression(scope, deep - 1), self.expression(scope, deep - 1))

    def place(self, scope):
        """A place, or None if the scope has none."""
        names = [name for name, kind in scope.items() if kind != "loop"]
        if not names:
            return None
        name = self.random.choice(names)
        if scope[name] == "at":
            return at(name, self.expression(scope, 3))
        return cell(name)

    def callees(self, own):
        """Pairs of an object and an operation that an operation of an object, or a task (-1), can call."""
        return [(thing, called) for index, thing in self.objects if index > own for called in thing[3]]

    def body(self, own, scope, lists=1, loops=0, rounds=12):
        return [row for row in [self.statement(own, scope, lists, loops, rounds) for _ in range(self.many(4))] if row]

    def statement(self, own, scope, lists, loops, rounds):
        """A statement, or None if the chosen kind is not possible."""
        kinds = ["set"] * 3 + ["call"] * 3
        if own < 0:
            kinds += ["read", "write", "write"]
        if lists < 8:
            kinds += ["if", "loop"] if loops < 4 else ["if"]
        kind = self.random.choice(kinds)
        if kind == "if":
            e = self.expression(scope, 3)
            return ("if", e, self.body(own, scope, lists + 1, loops, rounds),
                    self.body(own, scope, lists + 1, loops, rounds))
        if kind == "loop":
            return self.loop(own, scope, lists, loops, rounds)
        if kind == "call":
            return self.call(own, scope)
        if kind == "write":
            outputs = [name for direction, name in self.ports if direction == "out"]
            return ("write", self.random.choice(outputs), self.expression(scope, 4)) if outputs else None
        place = self.place(scope)
        inputs = [name for direction, name in self.ports if direction == "in"]
        if place is None or (kind == "read" and not inputs):
            return None
        if kind == "read":
            return ("read", place, self.random.choice(inputs))
        return ("set", place, self.expression(scope, 4))

    def loop(self, own, scope, lists, loops, rounds):
        count = self.random.randrange(1, max(2, min(5, rounds)))
        name = self.name()
        e = self.random.choice([None, self.expression(scope, 3)])
        inside = self.body(own, {**scope, name: "loop"}, lists + 1, loops + 1, rounds // count)
        return ("loop", name, count, e, inside)

    def call(self, own, scope):
        found = self.callees(own)
        if not found:
            return None
        thing, called = self.random.choice(found)
        given = [self.expression(scope, 3) for _ in called[2]]
        return ("call", self.random.choice([None, self.place(scope)]), thing[1], called[1], given)

    def scope(self, cells, *, params=()):
        found = {name: "cell" for name in params}
        for name, size in cells:
            found[name] = "at" if size else "cell"
        return found

    def shared(self, own):
        name, fields = self.name(), self.cells()
        return shared(name, fields, [self.operation(own, fields) for _ in range(self.many(3))])

    def operation(self, own, fields):
        params, cells = [self.name() for _ in range(self.many(4))], self.cells()
        scope = self.scope(fields + cells, params=params)
        body = self.body(own, scope, rounds=4)
        result = self.random.choice([None, self.expression(scope, 4)])
        return operation(self.name(), params, cells, body, result)

    def times(self):
        every = self.random.randrange(1, 4194305)
        return every, self.random.randrange(1, every + 1)

    def task(self):
        cells = self.cells()
        every, within = self.times()
        return task(self.name(), self.body(-1, self.scope(cells)), cells, every, within)

    def interrupt(self):
        thing, called = self.random.choice(self.callees(-1))
        every, within = self.times()
        given = [self.random.choice(WORDS) for _ in called[2]]
        return interrupt(self.name(), thing[1], called[1], given, every, within)

    def program(self):
        self.ports = [(self.random.choice(["in", "out"]), self.name()) for _ in range(self.many(6))]
        # The later objects are made first, since the operations of the earlier ones call theirs.
        for own in range(self.many(4) - 1, -1, -1):
            self.objects.insert(0, (own, self.shared(own)))
        tasks = [self.task() for _ in range(1 + self.many(3))]
        interrupts = [self.interrupt() for _ in range(self.many(2))] if self.callees(-1) else []
        return system(name=self.name(), ports=self.ports, objects=[thing for _, thing in self.objects], tasks=tasks,
                      interrupts=interrupts)

    def inputs(self, program):
        """Input words for each input port of a program."""
        ports = [kind for kind, _ in program[2] if kind == "in"]
        return [[self.random.choice(EDGE_WORDS) for _ in range(self.many(6))] for _ in ports]
