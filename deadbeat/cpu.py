"""The processor: what instructions cost, and how it executes them one by one."""

from deadbeat.codes import DATA_WORDS, OPERATORS
from deadbeat.errors import PlanError
from deadbeat.words import alter, combine, wrap

GREATEST_COST = 64
REGISTERS = 9
RETURN_REGISTER = 8
COUNTERS = 256
PORTS = 8
LOW_HALF = 65536
ACCESSES = ("load", "store", "loadx", "storex")
ALWAYS_TAKEN = ("jump", "link", "back")
TAKEN_AT_TIMES = ("jzero", "again")


class Costs:
    """The costs of the processor and of the kernel."""

    def __init__(self, *, fetch_hit=1, fetch_miss=11, plain=1, mul=3, div=8, load_hit=1, load_miss=11, store=4,
                 taken=1, count=2, port=4, release=6, switch=12, enter=5, leave=5, finish=8):
        _check_costs([fetch_hit, fetch_miss, plain, mul, div, load_hit, load_miss, store, taken, count, port], 1)
        _check_costs([release, switch, enter, leave, finish], 0)
        _check_miss(fetch_hit, fetch_miss)
        _check_miss(load_hit, load_miss)
        self.fetch_hit = fetch_hit
        self.fetch_miss = fetch_miss
        self.plain = plain
        self.mul = mul
        self.div = div
        self.load_hit = load_hit
        self.load_miss = load_miss
        self.store = store
        self.taken = taken
        self.count = count
        self.port = port
        self.release = release
        self.switch = switch
        self.enter = enter
        self.leave = leave
        self.finish = finish


def _check_costs(costs, least):
    for cost in costs:
        if not least <= cost <= GREATEST_COST:
            raise PlanError(cost)


def _check_miss(hit, miss):
    if miss < hit:
        raise PlanError(miss)


def instruction_cost(costs, instruction, *, fetch_hit, load_hit=True, taken=False):
    """The cost of an instruction, if it is known what hits and whether it continues at its address."""
    cost = costs.fetch_hit if fetch_hit else costs.fetch_miss
    cost += _execution_cost(costs, instruction, load_hit)
    if instruction[0] in ALWAYS_TAKEN or (taken and instruction[0] in TAKEN_AT_TIMES):
        cost += costs.taken
    return cost


def _execution_cost(costs, instruction, load_hit):
    """The cost of the execution, without fetching and without continuing elsewhere."""
    match instruction[0]:
        case "load" | "loadx":
            return costs.load_hit if load_hit else costs.load_miss
        case "store" | "storex":
            return costs.store
        case "calc":
            return _calculation_cost(costs, instruction[1])
        case "count" | "again":
            return costs.count
        case "in" | "out":
            return costs.port
        case _:
            return costs.plain


def _calculation_cost(costs, operation):
    if operation == "mul":
        return costs.mul
    if operation == "div" or operation == "mod":
        return costs.div
    return costs.plain


class Core:
    """The registers of a job and its code address."""

    def __init__(self, at):
        self.at = at
        self.registers = [0] * REGISTERS

    def put(self, r, word):
        """Writes a word to a register. Register 0 keeps its 0."""
        if r != 0:
            self.registers[r] = word


class Board:
    """What all jobs share: data, counters, caches and ports."""

    def __init__(self, code_cache, data_cache, inputs):
        self.data = [0] * DATA_WORDS
        self.counters = [0] * COUNTERS
        self.code_cache = code_cache.duplicate()
        self.data_cache = data_cache.duplicate()
        # The input words that are left.
        self.inputs = [list(words) for words in inputs] + [[] for _ in range(PORTS - len(inputs))]
        self.outputs = [[] for _ in range(PORTS)]

    def take(self, port):
        """The next input word of a port, which is removed, or 0 if there is none."""
        if len(self.inputs[port]) == 0:
            return 0
        return self.inputs[port].pop(0)


def step(costs, code, core, board):
    """Executes the instruction at the code address. Returns its cost and the instruction, None if there is none."""
    if not 0 <= core.at < len(code):
        return (0, None)
    instruction = code[core.at]
    fetch_hit = board.code_cache.read(core.at)
    # What executes an instruction that continues elsewhere replaces this address.
    core.at += 1
    load_hit = True
    taken = False
    if instruction[0] in ACCESSES:
        load_hit = _access(instruction, core, board)
    elif instruction[0] in TAKEN_AT_TIMES:
        taken = _branch(instruction, core, board)
    elif instruction[0] in ALWAYS_TAKEN:
        _jump(instruction, core)
    else:
        _work(instruction, core, board)
    cost = instruction_cost(costs, instruction, fetch_hit=fetch_hit, load_hit=load_hit, taken=taken)
    return (cost, instruction)


def _access(instruction, core, board):
    """Executes a load or a store, and tells whether it was a hit."""
    r = instruction[1]
    address = _data_address(instruction, core)
    if instruction[0] == "load" or instruction[0] == "loadx":
        core.put(r, board.data[address])
        return board.data_cache.read(address)
    board.data[address] = core.registers[r]
    return board.data_cache.write(address)


def _data_address(instruction, core):
    if instruction[0] == "load" or instruction[0] == "store":
        return instruction[2]
    _, _, s, first, cells = instruction
    return first + core.registers[s] % cells


def _branch(instruction, core, board):
    """Executes an instruction that continues elsewhere at times, and tells whether it does."""
    name, number, address = instruction
    if name == "jzero":
        taken = core.registers[number] == 0
    else:
        board.counters[number] = wrap(board.counters[number] - 1)
        taken = board.counters[number] != 0
    if taken:
        core.at = address
    return taken


def _jump(instruction, core):
    """Executes an instruction that always continues elsewhere. The code address is already the next one."""
    if instruction[0] == "back":
        core.at = core.registers[RETURN_REGISTER]
        return
    if instruction[0] == "link":
        core.registers[RETURN_REGISTER] = core.at
    core.at = instruction[1]


def _work(instruction, core, board):
    """Executes an instruction behind which the next one follows. The remaining ones have no effect."""
    match instruction:
        case ("set", r, n):
            core.put(r, wrap(n))
        case ("high", r, n):
            core.put(r, core.registers[r] % LOW_HALF + n * LOW_HALF)
        case ("calc", operation, r, s, t):
            core.put(r, _calculated(operation, core.registers[s], core.registers[t]))
        case ("count", c, n):
            board.counters[c] = n
        case ("in", r, q):
            core.put(r, board.take(q))
        case ("out", r, q):
            board.outputs[q].append(core.registers[r])


def _calculated(operation, a, b):
    if operation == "nor":
        return alter("inv", a | b)
    return combine(OPERATORS[operation], a, b)
