"""The code of statements."""

from deadbeat.exprs import expression_code, word_code
from deadbeat.layout import find_group, visible
from deadbeat.meaning import port_number
from deadbeat.rules import find
from deadbeat.trees import copied_program

# Until it is known where a jump goes, it has this address.
LATER = 0


class Target:
    """What the code of all routines needs: where data and operations lie, and which counters are free."""

    def __init__(self, program, groups):
        self.program = copied_program(program)
        self.groups = [find_group(groups, group[0]) for group in groups]
        self.entries = {}
        self.counter = 0

    def take_counter(self):
        """The next free counter, which is no longer free."""
        self.counter += 1
        return self.counter - 1


class Coder:
    """Collects the code of one routine."""

    def __init__(self, target, routine, start):
        self.target = target
        self.code = []
        self.start = start
        self.names = visible(target.groups, routine)
        group = find_group(target.groups, routine)
        # The addresses of the variables of the loops whose code has not begun.
        self.variables = [] if group is None else group[4]

    def here(self):
        """The address of the next instruction."""
        return self.start + len(self.code)

    def jump_later(self, instruction):
        """Appends a jump whose address is not known yet. Returns its index."""
        self.code.append(instruction)
        return len(self.code) - 1

    def land(self, index):
        """Lets a jump that was appended before go to the address of the next instruction."""
        self.code[index] = self.code[index][:-1] + (self.here(),)

    def value(self, e):
        """Appends the code that puts the value of an expression into register 1."""
        self.code.extend(expression_code(self.names, e, 1))

    def store(self, place):
        """Appends the code that stores register 1 to a place."""
        address, many = self.names[place[1]]
        if place[0] == "cell":
            self.code.append(("store", 1, address))
        else:
            self.code.extend(expression_code(self.names, place[2], 2))
            self.code.append(("storex", 1, 2, address, many))

    def clear(self, cells):
        """Appends the code that sets cells to 0."""
        for _, address, many in cells:
            if many == 0:
                self.code.append(("store", 0, address))
            else:
                self.clear_array(address, many)

    def clear_array(self, address, many):
        """Appends the code that sets all words of an array to 0."""
        counter = self.target.take_counter()
        self.code.extend([("set", 1, 0), ("count", counter, many)])
        head = self.here()
        self.code.extend([("storex", 0, 1, address, many), ("set", 2, 1), ("calc", "add", 1, 1, 2)])
        self.code.append(("again", counter, head))

    def body(self, statements):
        """Appends the code of statements."""
        for statement in statements:
            self.statement(statement)

    def statement(self, statement):
        """Appends the code of a statement."""
        match statement:
            case ("set", place, e):
                self.value(e)
                self.store(place)
            case ("if", e, then, other):
                self.choice(e, then, other)
            case ("loop", name, many, e, inside):
                self.rounds(name, many, e, inside)
            case ("call", place, thing, operation, given):
                self.call(place, thing, operation, given)
            case ("read", place, port):
                self.code.append(("in", 1, port_number(self.target.program, "in", port)))
                self.store(place)
            case ("write", port, e):
                self.value(e)
                self.code.append(("out", 1, port_number(self.target.program, "out", port)))

    def choice(self, e, then, other):
        """Appends the code of an if."""
        self.value(e)
        skip = self.jump_later(("jzero", 1, LATER))
        self.body(then)
        if len(other) == 0:
            self.land(skip)
            return
        leave = self.jump_later(("jump", LATER))
        self.land(skip)
        self.body(other)
        self.land(leave)

    def rounds(self, name, many, e, inside):
        """Appends the code of a loop."""
        variable = self.variables.pop(0)
        counter = self.target.take_counter()
        self.code.extend([("store", 0, variable), ("count", counter, many)])
        head = self.here()
        leave = None
        if e is not None:
            self.value(e)
            leave = self.jump_later(("jzero", 1, LATER))
        self.names[name] = (variable, 0)
        self.body(inside)
        del self.names[name]
        self.code.extend([("load", 1, variable), ("set", 2, 1), ("calc", "add", 1, 1, 2), ("store", 1, variable)])
        self.code.append(("again", counter, head))
        if leave is not None:
            self.land(leave)

    def call(self, place, thing, operation, given):
        """Appends the code of a call, whose result goes to a place if that is not None."""
        objects = self.target.program[3]
        o = find(objects, thing)
        k = find(objects[o][3], operation)
        for index, e in enumerate(given):
            self.code.extend(expression_code(self.names, e, index + 1))
        self.visit(o, k)
        if place is not None:
            result = find_group(self.target.groups, ("operation", o, k))[5]
            self.code.append(("set", 1, 0) if result is None else ("load", 1, result))
        self.code.append(("leave", o))
        if place is not None:
            self.store(place)

    def visit(self, o, k):
        """Appends the code that enters an object, and calls its operation with the registers from 1 on."""
        self.code.append(("enter", o))
        params = find_group(self.target.groups, ("operation", o, k))[2]
        for index, (_, address, _) in enumerate(params):
            self.code.append(("store", index + 1, address))
        self.code.append(("link", self.target.entries[(o, k)]))

    def constant_call(self, o, k, words):
        """Appends the code of a call with words as arguments, whose result is dropped."""
        for index, word in enumerate(words):
            self.code.extend(word_code(index + 1, word))
        self.visit(o, k)
        self.code.append(("leave", o))
