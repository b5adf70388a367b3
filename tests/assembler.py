"""A second compiler with which the program's own one is compared.

Data are lists of labels, from which addresses follow; code is a list with labels, which is resolved at the end.
"""

from tests.oracle import index

NAMES = dict(zip("+ - * / mod & | ^ << >> < <= ~< ~<= == !=".split(),
                 "add sub mul div mod and or xor shl shr ult ule slt sle eq ne".split()))


def inner_loops(rows):
    """The number of loops in a list of statements."""
    return sum(1 + inner_loops(row[4]) if row[0] == "loop" else inner_loops(row[2]) + inner_loops(row[3])
               for row in rows if row[0] in ("loop", "if"))


def cell_labels(kind, rows):
    return [(kind, name, number) for name, size in rows for number in range(size or 1)]


def group_labels(program):
    """Pairs of an owner and the labels of all its words, in order."""
    found = []
    for o, (_, _, fields, operations) in enumerate(program[3]):
        found.append((("object", o), cell_labels("cell", fields)))
        for k, (_, _, params, rows, body, result) in enumerate(operations):
            labels = [("param", name, 0) for name in params] + cell_labels("cell", rows)
            labels += [("loop", "", number) for number in range(inner_loops(body))]
            found.append((("operation", o, k), labels + ([("result", "", 0)] if result else []) + [("back", "", 0)]))
    for t, (_, _, _, _, rows, body) in enumerate(program[4]):
        loops = [("loop", "", number) for number in range(inner_loops(body))]
        found.append((("task", t), cell_labels("cell", rows) + loops))
    return found


def addresses(program, line):
    """For each owner a dict from labels to addresses, with the start under the label None."""
    found, end = {}, 0
    for owner, labels in group_labels(program):
        while end % line:
            end += 1
        found[owner] = {None: end, **{label: end + number for number, label in enumerate(labels)}}
        end += len(labels)
    return found


def declared(program, owner):
    """The params and the cells of an owner, as pairs."""
    if owner[0] == "object":
        return [], program[3][owner[1]][2]
    if owner[0] == "task":
        return [], program[4][owner[1]][4]
    operation = program[3][owner[1]][3][owner[2]]
    return [(name, 0) for name in operation[2]], operation[3]


def groups(program, line):
    found = []
    for owner, places in addresses(program, line).items():
        params, cells = declared(program, owner)
        loops = [at for label, at in places.items() if label and label[0] == "loop"]
        found.append((
            owner, places[None], [(name, places["param", name, 0], 0) for name, _ in params],
            [(name, places["cell", name, 0], size) for name, size in cells], loops,
            places.get(("result", "", 0)), places.get(("back", "", 0)),
        ))
    return found


class Assembler:
    def __init__(self, program, data_line):
        self.program = program
        self.data = addresses(program, data_line)
        self.counter = 0
        self.label = 0
        self.rows = []

    def new_label(self):
        self.label += 1
        return f"label {self.label}"

    def add(self, *rows):
        self.rows.extend(rows)

    def word(self, r, w):
        for n in (w, w - 2 ** 32):
            if -32768 <= n <= 32767:
                return self.add(("set", r, n))
        half = w % 65536
        self.add(("set", r, half - 65536 if half > 32767 else half), ("high", r, w >> 16))

    def value(self, e, r):
        kind = e[0]
        if kind == "num":
            self.word(r, e[1])
        elif kind == "cell":
            self.add(("load", r, self.names[e[1]][0]))
        elif kind == "at":
            self.value(e[2], r)
            self.add(("loadx", r, r, *self.names[e[1]]))
        elif kind in ("neg", "inv", "not"):
            self.value(e[1], r)
            self.add({"neg": ("calc", "sub", r, 0, r), "inv": ("calc", "nor", r, r, 0), "not": ("calc", "eq", r, r, 0)}[kind])
        elif kind == "and":
            for number in (0, 1):
                self.value(e[1 + number], r + number)
                self.add(("calc", "ne", r + number, r + number, 0))
            self.add(("calc", "and", r, r, r + 1))
        else:
            self.value(e[1], r)
            self.value(e[2], r + 1)
            self.add(("calc", NAMES.get(kind, kind), r, r, r + 1))
            if kind == "or":
                self.add(("calc", "ne", r, r, 0))

    def store(self, place):
        if place[0] == "cell":
            self.add(("store", 1, self.names[place[1]][0]))
        else:
            self.value(place[2], 2)
            self.add(("storex", 1, 2, *self.names[place[1]]))

    def next_counter(self):
        self.counter += 1
        return self.counter - 1

    def clear(self, cells):
        for name, size in cells:
            at = self.own["cell", name, 0]
            if size:
                counter, head = self.next_counter(), self.new_label()
                self.add(("set", 1, 0), ("count", counter, size), head, ("storex", 0, 1, at, size), ("set", 2, 1),
                         ("calc", "add", 1, 1, 2), ("again", counter, head))
            else:
                self.add(("store", 0, at))

    def port(self, kind, name):
        return index([row for row in self.program[2] if row[0] == kind], name)

    def body(self, rows):
        for row in rows:
            getattr(self, row[0] + "_code")(*row[1:])

    def set_code(self, place, e):
        self.value(e, 1)
        self.store(place)

    def if_code(self, e, then, other):
        behind, end = self.new_label(), self.new_label()
        self.value(e, 1)
        self.add(("jzero", 1, behind))
        self.body(then)
        if other:
            self.add(("jump", end))
        self.add(behind)
        self.body(other)
        self.add(end)

    def loop_code(self, name, count, e, body):
        variable, counter = self.own["loop", "", self.loop], self.next_counter()
        self.loop += 1
        head, end = self.new_label(), self.new_label()
        self.add(("store", 0, variable), ("count", counter, count), head)
        if e:
            self.value(e, 1)
            self.add(("jzero", 1, end))
        outer, self.names = self.names, {**self.names, name: (variable, 0)}
        self.body(body)
        self.names = outer
        self.add(("load", 1, variable), ("set", 2, 1), ("calc", "add", 1, 1, 2), ("store", 1, variable))
        self.add(("again", counter, head), end)

    def call_code(self, place, name, called, given):
        o = index(self.program[3], name)
        k = index(self.program[3][o][3], called)
        for number, e in enumerate(given, 1):
            self.value(e, number)
        self.invoke(o, k)
        if place:
            result = self.data["operation", o, k].get(("result", "", 0))
            self.add(("set", 1, 0) if result is None else ("load", 1, result))
        self.add(("leave", o))
        if place:
            self.store(place)

    def invoke(self, o, k):
        self.add(("enter", o))
        for number, name in enumerate(self.program[3][o][3][k][2], 1):
            self.add(("store", number, self.data["operation", o, k]["param", name, 0]))
        self.add(("link", f"operation {o} {k}"))

    def read_code(self, place, name):
        self.add(("in", 1, self.port("in", name)))
        self.store(place)

    def write_code(self, name, e):
        self.value(e, 1)
        self.add(("out", 1, self.port("out", name)))

    def routine(self, routine):
        """Appends the code of a routine."""
        self.own, self.loop, self.names = self.data.get(routine, {}), 0, {}
        if routine[0] == "operation":
            _, _, params, cells, body, result = self.program[3][routine[1]][3][routine[2]]
            self.names = {name: (self.data["object", routine[1]]["cell", name, 0], size)
                          for name, size in self.program[3][routine[1]][2]}
            self.names.update({name: (self.own["param", name, 0], 0) for name in params})
            self.names.update({name: (self.own["cell", name, 0], size) for name, size in cells})
            self.add(f"operation {routine[1]} {routine[2]}", ("store", 8, self.own["back", "", 0]))
            self.clear(cells)
            self.body(body)
            if result:
                self.value(result, 1)
                self.add(("store", 1, self.own["result", "", 0]))
            self.add(("load", 8, self.own["back", "", 0]), ("back",))
        elif routine[0] == "task":
            _, _, _, _, cells, body = self.program[4][routine[1]]
            self.names = {name: (self.own["cell", name, 0], size) for name, size in cells}
            self.clear(cells)
            self.body(body)
            self.add(("done",))
        else:
            _, _, _, _, name, called, given = self.program[5][routine[1]]
            for number, word in enumerate(given, 1):
                self.word(number, word)
            o = index(self.program[3], name)
            self.invoke(o, index(self.program[3][o][3], called))
            self.add(("leave", o), ("done",))

    def many(self):
        return sum(1 for row in self.rows if isinstance(row, tuple))

    def resolved(self):
        labels, code = {}, []
        for row in self.rows:
            if isinstance(row, tuple):
                code.append(row)
            else:
                labels[row] = len(code)
        return [row[:-1] + (labels.get(row[-1], row[-1]),) if len(row) > 1 else row for row in code]


def image(program, code_line, data_line):
    assembler = Assembler(program, data_line)
    order = [("operation", o, k) for o in range(len(program[3]) - 1, -1, -1) for k in range(len(program[3][o][3]))]
    order += [("task", t) for t in range(len(program[4]))] + [("interrupt", i) for i in range(len(program[5]))]
    routines = []
    for routine in order:
        while assembler.many() % code_line:
            assembler.add(("set", 0, 0))
        start = assembler.many()
        assembler.routine(routine)
        routines.append((routine, start, assembler.many() - start))
    return ("image", assembler.resolved(), routines, groups(program, data_line))
