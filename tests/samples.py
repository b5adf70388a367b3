"""Trees that several tests use: a program with every form, and random trees from fixed seeds."""

import random

UNARY = ["neg", "inv", "not"]
GROUPS = [
    ["or"], ["and"], ["|"], ["^"], ["&"], ["==", "!="], ["<", "<=", "~<", "~<="], ["<<", ">>"], ["+", "-"],
    ["*", "/", "mod"],
]
OPERATORS = [operator for group in GROUPS for operator in group]
NAMES = ["a", "B", "x1", "i_", "letter", "ends", "every_2", "Zz9_Zz9_Zz9_Zz9_", "ins"]
WORDS = [0, 1, 9, 10, 2147483647, 2147483648, 4294967295]


def full_program():
    """A program with every form of declaration and statement. It is new at each call."""
    a, b = ("cell", "a"), ("at", "b", ("cell", "i"))
    inner = [("write", "out1", ("neg", a)), ("read", b, "in1"), ("read", a, "in2")]
    body = [
        ("set", a, ("num", 4294967295)),
        ("set", b, ("+", a, ("*", a, ("num", 2)))),
        ("if", ("<", a, ("num", 7)), [("loop", "i", 64, None, inner)], []),
        ("if", ("not", a), [], [("set", a, ("num", 0))]),
        ("if", a, [("set", a, a)], [("if", b, [], [])]),
        ("loop", "j", 1, ("!=", a, b), []),
        ("call", None, "box", "put", []),
        ("call", a, "box", "get", [("num", 1), ("or", a, b)]),
        ("call", ("at", "b", ("inv", ("-", a, b))), "last", "f", [a]),
    ]
    put = ("operation", "put", [], [], [], None)
    get = ("operation", "get", ["x", "y"], [("l", 0), ("m", 2)], [("set", ("cell", "l"), ("cell", "x"))], ("cell", "l"))
    f = ("operation", "f", ["only"], [], [], ("and", ("num", 1), ("cell", "only")))
    return (
        "system", "all",
        [("in", "in1"), ("out", "out1"), ("in", "in2")],
        [("object", "box", [("level", 0), ("rows", 64)], [put, get]), ("object", "empty", [], []),
         ("object", "last", [("v", 1)], [f])],
        [("task", "t", 4194304, 1, [("a", 0), ("b", 5)], body), ("task", "u", 1, 1, [], [])],
        [("interrupt", "k", 900, 800, "box", "put", []), ("interrupt", "l", 9, 9, "last", "f", [0, 4294967295, 7])],
    )


FULL_TEXT = """system all
in in1
out out1
in in2
object box
  cell level
  cell rows[64]
  operation put()
  end
  operation get(x, y)
    cell l
    cell m[2]
    l := x;
    give l;
  end
end
object empty
end
object last
  cell v[1]
  operation f(only)
    give 1 and only;
  end
end
task t every 4194304 within 1
  cell a
  cell b[5]
  a := 4294967295;
  b[i] := a + a * 2;
  if a < 7
    loop i to 64
      write out1 -a;
      b[i] := read in1;
      a := read in2;
    end
  end
  if !a
  else
    a := 0;
  end
  if a
    a := a;
  else
    if b[i]
    end
  end
  loop j to 1 while a != b[i]
  end
  box.put();
  a := box.get(1, a or b[i]);
  b[~(a - b[i])] := last.f(a);
end
task u every 1 within 1
end
interrupt k every 900 within 800 calls box.put()
interrupt l every 9 within 9 calls last.f(0, 4294967295, 7)
"""


class Maker:
    """Makes random trees within the limits of the language."""

    def __init__(self, seed):
        self.random = random.Random(seed)

    def name(self):
        return self.random.choice(NAMES)

    def expression(self, deep):
        kinds = ["num", "cell"]
        if deep > 1:
            kinds += ["at", "at"] + UNARY + OPERATORS
        kind = self.random.choice(kinds)
        if kind == "num":
            return ("num", self.random.choice(WORDS))
        if kind == "cell":
            return ("cell", self.name())
        if kind == "at":
            return ("at", self.name(), self.expression(deep - 1))
        if kind in UNARY:
            return (kind, self.expression(deep - 1))
        return (kind, self.expression(deep - 1), self.expression(deep - 1))

    def place(self):
        if self.random.random() < 0.5:
            return ("cell", self.name())
        return ("at", self.name(), self.expression(5))

    def body(self, deep):
        return [self.statement(deep) for _ in range(self.random.randrange(4))]

    def statement(self, deep):
        kinds = ["set", "call", "read", "write"]
        if deep > 1:
            kinds += ["if", "loop", "if", "loop"]
        kind = self.random.choice(kinds)
        if kind == "set":
            return ("set", self.place(), self.expression(6))
        if kind == "call":
            place = self.random.choice([None, self.place()])
            given = [self.expression(4) for _ in range(self.random.randrange(5))]
            return ("call", place, self.name(), self.name(), given)
        if kind == "read":
            return ("read", self.place(), self.name())
        if kind == "write":
            return ("write", self.name(), self.expression(6))
        if kind == "if":
            return ("if", self.expression(6), self.body(deep - 1), self.body(deep - 1))
        count = self.random.randrange(1, 65)
        return ("loop", self.name(), count, self.random.choice([None, self.expression(6)]), self.body(deep - 1))

    def cells(self):
        return [(self.name(), self.random.choice([0, 1, 2, 64])) for _ in range(self.random.randrange(3))]

    def operation(self):
        params = [self.name() for _ in range(self.random.randrange(5))]
        result = self.random.choice([None, self.expression(6)])
        return ("operation", self.name(), params, self.cells(), self.body(6), result)

    def time(self):
        return self.random.choice([1, 500, 4194304])

    def program(self):
        many = self.random.randrange
        ports = [(self.random.choice(["in", "out"]), self.name()) for _ in range(many(4))]
        objects = [("object", self.name(), self.cells(), [self.operation() for _ in range(many(3))])
                   for _ in range(many(3))]
        tasks = [("task", self.name(), self.time(), self.time(), self.cells(), self.body(8)) for _ in range(many(4))]
        interrupts = [
            ("interrupt", self.name(), self.time(), self.time(), self.name(), self.name(),
             [self.random.choice(WORDS) for _ in range(many(4))])
            for _ in range(many(3))
        ]
        return ("system", self.name(), ports, objects, tasks, interrupts)


def chain(operator, many):
    """A chain of one operator over `many` cells, which leans to the left."""
    e = ("cell", "a")
    for _ in range(many - 1):
        e = (operator, e, ("cell", "a"))
    return e
