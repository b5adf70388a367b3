"""Random well-formed routines from fixed seeds: code with conditions, loops, early ways out, objects and calls."""

import random

from tests.machine import CALCULATIONS


class RoutineMaker:
    """Appends routines to one list of instructions."""

    def __init__(self, seed, most_rounds=4):
        self.random = random.Random(seed)
        self.code = []
        self.callees = []
        self.counter = 0
        self.most_rounds = most_rounds

    def register(self):
        return self.random.randrange(1, 8)

    def plain(self):
        """An instruction without any effect on the way of the code."""
        chance = self.random
        name = chance.choice(["set", "calc", "calc", "load", "load", "store", "loadx", "storex", "in", "out", "high"])
        if name in ("set", "high"):
            return (name, self.register(), chance.randrange(3))
        if name == "calc":
            return (name, chance.choice(list(CALCULATIONS)), self.register(), self.register(), self.register())
        if name in ("load", "store"):
            return (name, self.register(), chance.randrange(24))
        if name in ("loadx", "storex"):
            return (name, self.register(), self.register(), chance.randrange(16), chance.choice([1, 2, 3, 8]))
        return (name, self.register(), chance.randrange(8))

    def block(self, deep, loops, entered, exits):
        for _ in range(self.random.randrange(4)):
            self.item(deep, loops, entered, exits)

    def item(self, deep, loops, entered, exits):
        """Appends something. `exits` has, for each loop that may be left early, the list of the jumps out of it."""
        kinds = ["plain"] * 4 + ["leave"] * bool(exits) + ["link"] * bool(self.callees)
        if deep:
            kinds += ["condition"] * 2 + ["choice"] + ["loop"] * 3 * (loops < 4) + ["enter"] * 2 * (len(entered) < 4)
        kind = self.random.choice(kinds)
        if kind == "plain":
            self.code.append(self.plain())
        elif kind == "link":
            self.code.append(("link", self.random.choice(self.callees)))
        elif kind == "leave":
            self.random.choice(exits).append(self.later())
        else:
            getattr(self, kind)(deep - 1, loops, entered, exits)

    def later(self):
        """Appends a jump whose address is not known yet. Returns its index."""
        self.code.append(None)
        return len(self.code) - 1

    def condition(self, deep, loops, entered, exits):
        skip = self.later()
        self.block(deep, loops, entered, exits)
        self.code[skip] = ("jzero", self.register(), len(self.code))
        self.code.append(self.plain())

    def choice(self, deep, loops, entered, exits):
        skip = self.later()
        self.block(deep, loops, entered, exits)
        leave = self.later()
        self.code[skip] = ("jzero", self.register(), len(self.code))
        self.block(deep, loops, entered, exits)
        self.code[leave] = ("jump", len(self.code))
        self.code.append(self.plain())

    def enter(self, deep, loops, entered, exits):
        o = self.random.choice([o for o in range(4) if o not in entered])
        self.code.append(("enter", o))
        self.block(deep, loops, entered + [o], [])
        self.code.append(("leave", o))

    def loop(self, deep, loops, entered, exits):
        many = self.random.choice([1, 1, 2, 2, 3, self.most_rounds])
        counter, own = self.counter, []
        self.counter += 1
        self.code.append(("count", counter, many))
        head = len(self.code)
        self.block(deep, loops + 1, entered, exits + [own])
        self.code.append(("again", counter, head))
        if self.random.random() < 0.5:
            self.code.append(self.plain())
        for index in own:
            self.code[index] = ("jzero", self.register(), len(self.code))
        self.code.append(self.plain())

    def routine(self, last, deep):
        """Appends a routine that ends with "back" or "done". Returns its start address."""
        start = len(self.code)
        if last == "back":
            # The routine may call others, which change register 8.
            self.code.append(("store", 8, 200 + start))
        self.block(deep, 0, [], [])
        self.item(deep, 0, [], [])
        if last == "back":
            self.code.append(("load", 8, 200 + start))
        self.code.append((last,))
        return start


def random_code(seed, most_rounds=4):
    """Code with some operations and a body. Returns the code and the start address of the body."""
    maker = RoutineMaker(seed, most_rounds)
    for _ in range(maker.random.randrange(3)):
        maker.callees.append(maker.routine("back", maker.random.randrange(1, 4)))
    return maker.code, maker.routine("done", maker.random.randrange(2, 6))


def broken(code, chance):
    """Code in which one instruction is replaced by another one or has another number."""
    code = list(code)
    p = chance.randrange(len(code))
    row = code[p]
    kind = chance.randrange(4)
    if kind == 0 and len(row) > 1 and row[0] in ("jump", "jzero", "again", "link", "count", "enter", "leave"):
        place = chance.randrange(1, len(row))
        code[p] = row[:place] + (max(0, row[place] + chance.choice([-2, -1, 1, 2])),) + row[place + 1:]
    elif kind == 1:
        code[p] = chance.choice(code)
    elif kind == 2:
        del code[p]
    else:
        other = chance.randrange(len(code) + 1)
        code[p] = chance.choice([("jzero", 1, other), ("jump", other), ("again", chance.randrange(3), other), ("link", other),
                                 ("back",), ("done",), ("enter", 0), ("leave", 0), ("count", chance.randrange(3), 2)])
    return code
