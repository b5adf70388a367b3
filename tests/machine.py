"""A second processor with which the program's own one is compared: all state in plain lists, one line for each rule."""

MODULUS = 2 ** 32
CALCULATIONS = {
    "add": lambda a, b: a + b,
    "sub": lambda a, b: a - b,
    "mul": lambda a, b: a * b,
    "div": lambda a, b: a // b if b else 0,
    "mod": lambda a, b: a % b if b else a,
    "and": lambda a, b: a & b,
    "or": lambda a, b: a | b,
    "xor": lambda a, b: a ^ b,
    "nor": lambda a, b: MODULUS - 1 - (a | b),
    "shl": lambda a, b: a * 2 ** (b % 32),
    "shr": lambda a, b: a // 2 ** (b % 32),
    "ult": lambda a, b: int(a < b),
    "ule": lambda a, b: int(a <= b),
    "slt": lambda a, b: int(signed(a) < signed(b)),
    "sle": lambda a, b: int(signed(a) <= signed(b)),
    "eq": lambda a, b: int(a == b),
    "ne": lambda a, b: int(a != b),
}


def signed(word):
    return word - MODULUS if word >= MODULUS // 2 else word


class Lines:
    """The contents of a cache as one list of lines, the most recently used one first."""

    def __init__(self, shape, rows=()):
        self.sets, self.ways, self.size = shape
        self.used = [line for row in rows for line in row]

    def rows(self):
        return [[line for line in self.used if line % self.sets == number] for number in range(self.sets)]

    def use(self, address, brings):
        line = address // self.size
        rivals = [other for other in self.used if other % self.sets == line % self.sets]
        hit = line in rivals
        if hit:
            self.used.remove(line)
        elif brings and len(rivals) == self.ways:
            self.used.remove(rivals[-1])
        if hit or brings:
            self.used.insert(0, line)
        return hit


class Machine:
    def __init__(self, costs, code, code_lines, data_lines, inputs=()):
        self.costs = costs
        self.code = code
        self.code_lines = code_lines
        self.data_lines = data_lines
        self.data = [0] * 16384
        self.counters = [0] * 256
        self.inputs = [list(words) for words in inputs] + [[]] * (8 - len(inputs))
        self.outputs = [[] for _ in range(8)]
        self.registers = [0] * 9
        self.at = 0

    def put(self, r, word):
        if r:
            self.registers[r] = word % MODULUS

    def step(self):
        """Executes one instruction. Returns its cost and the instruction."""
        if self.at not in range(len(self.code)):
            return 0, None
        instruction = self.code[self.at]
        cost = self.costs.fetch_hit if self.code_lines.use(self.at, True) else self.costs.fetch_miss
        self.at += 1
        name, *rest = instruction
        cost += getattr(self, "do_" + name)(*rest)
        return cost, instruction

    def do_set(self, r, n):
        self.put(r, n)
        return self.costs.plain

    def do_high(self, r, n):
        self.put(r, self.registers[r] % 65536 + n * 65536)
        return self.costs.plain

    def do_calc(self, k, r, s, t):
        self.put(r, CALCULATIONS[k](self.registers[s], self.registers[t]))
        return {"mul": self.costs.mul, "div": self.costs.div, "mod": self.costs.div}.get(k, self.costs.plain)

    def do_load(self, r, a):
        self.put(r, self.data[a])
        return self.costs.load_hit if self.data_lines.use(a, True) else self.costs.load_miss

    def do_store(self, r, a):
        self.data[a] = self.registers[r]
        self.data_lines.use(a, False)
        return self.costs.store

    def do_loadx(self, r, s, a, n):
        return self.do_load(r, a + self.registers[s] % n)

    def do_storex(self, r, s, a, n):
        return self.do_store(r, a + self.registers[s] % n)

    def do_jump(self, p):
        self.at = p
        return self.costs.plain + self.costs.taken

    def do_jzero(self, r, p):
        return self.costs.plain if self.registers[r] else self.do_jump(p)

    def do_count(self, c, n):
        self.counters[c] = n
        return self.costs.count

    def do_again(self, c, p):
        self.counters[c] = (self.counters[c] - 1) % MODULUS
        if self.counters[c]:
            self.at = p
            return self.costs.count + self.costs.taken
        return self.costs.count

    def do_link(self, p):
        self.registers[8] = self.at
        return self.do_jump(p)

    def do_back(self):
        return self.do_jump(self.registers[8])

    def do_done(self):
        return self.costs.plain

    def do_enter(self, o):
        return self.costs.plain

    def do_leave(self, o):
        return self.costs.plain

    def do_in(self, r, q):
        self.put(r, self.inputs[q].pop(0) if self.inputs[q] else 0)
        return self.costs.port

    def do_out(self, r, q):
        self.outputs[q].append(self.registers[r])
        return self.costs.port
