"""The console, which performs the commands of scripts."""

from deadbeat.admit import analysed
from deadbeat.cpu import PORTS, Costs
from deadbeat.errors import BoundError, CodeError, PlanError, RuleError, TextError
from deadbeat.images import build
from deadbeat.judging import Limits, judge
from deadbeat.parsing import parse_program
from deadbeat.rules import check
from deadbeat.scripts import read_commands
from deadbeat.sections import all_routines, section_bounds
from deadbeat.system import load
from deadbeat.trees import write_program

FIRST_SHAPE = (4, 2, 4)


def run_script(script):
    """The output lines of a script. Raises CommandError."""
    console = Console()
    # A line that is not a command leaves no output, so all lines are read before the first one is performed.
    for command in read_commands(script):
        console.perform(command)
    return console.lines


class Console:
    """What the commands of a script have set, and the output so far."""

    def __init__(self):
        self.text = ""
        self.costs = {}
        self.shapes = {"code": FIRST_SHAPE, "data": FIRST_SHAPE}
        self.release_times = {}
        self.input_words = [[] for _ in range(PORTS)]
        self.lines = []

    def perform(self, command):
        """Performs a command."""
        match command:
            case ("program", text):
                self.text = text
            case ("cost", name, cost):
                self.costs[name] = cost
            case ("release", number, times):
                self.release_times[number] = times
            case ("input", port, words):
                self.input_words[port] = words
            case ("code", shape):
                self.shapes["code"] = shape
            case ("data", shape):
                self.shapes["data"] = shape
            case _:
                self.lines.extend(self.answer(command))

    def answer(self, command):
        """The lines that a command adds to the output."""
        try:
            return self.told(command)
        except TextError as text_error:
            return [f"error TextError {text_error.line}"]
        except RuleError as rule_error:
            return [f"error RuleError {rule_error.rule}"]
        except PlanError:
            return ["error PlanError"]
        except CodeError:
            return ["error CodeError"]
        except BoundError:
            return ["error BoundError"]

    def told(self, command):
        """The lines that a command adds to the output if there is no error."""
        program = parse_program(self.text)
        check(program)
        if command[0] == "check":
            return ["ok"]
        if command[0] == "print":
            return write_program(program).split("\n")[:-1]
        processor = (self.shapes["code"], self.shapes["data"], Costs(**self.costs))
        match command:
            case ("size",):
                image = build(program, processor[0][2], processor[1][2])
                return [f"code {len(image[1])}"]
            case ("admit",):
                return _verdict_lines(analysed(program, processor).verdict())
            case ("run", horizon):
                return _run_lines(program, self.run(program, processor, horizon))
            case ("judge", horizon):
                plan = analysed(program, processor)
                return _judge_lines(judge(limits_of(plan), self.run(program, processor, horizon).events))

    def run(self, program, processor, horizon):
        """The kernel of a program after it has run up to a time."""
        system = load(program, processor)
        releases = {number: times for number, times in self.release_times.items() if number in system.every}
        return system.run(releases, self.input_words, horizon)


def _verdict_lines(verdict):
    _, admitted, _, rows = verdict
    lines = ["admitted" if admitted else "refused"]
    for number, own, blocked, _, response in rows:
        lines.append(f"{number} {own} {blocked} {_written(response)}")
    return lines


def _run_lines(program, kernel):
    """A line for each event and for each output port of a program."""
    rows = [list(event) for event in kernel.events]
    ports = len([row for row in program[2] if row[0] == "out"])
    rows.extend([["outputs", port] + kernel.board.outputs[port] for port in range(ports)])
    return [" ".join([_written(item) for item in row]) for row in rows]


def _judge_lines(findings):
    if len(findings) == 0:
        return ["fair"]
    return [f"{kind} {at} {number}" for kind, at, number in findings]


def _written(item):
    """An item of an event as text."""
    if item is None or item == []:
        return "-"
    if isinstance(item, list):
        return ",".join([str(word) for word in item])
    return str(item)


def limits_of(plan):
    """The limits that a plan gives for its traces."""
    sections = {}
    reloads = {}
    for number in plan.numbers:
        for o in range(len(plan.ceilings)):
            sections[(number, o)] = 0
        for start in plan.reloads.with_callees(plan.starts[number]):
            for _, o, bound in section_bounds(plan.table[start]):
                sections[(number, o)] = max(sections[(number, o)], bound)
        reloads[number] = max([plan.charge(j, number) for j in plan.numbers if j > number], default=0)
    bodies = {number: plan.need(number) for number in plan.numbers}
    return Limits(within=plan.within, ceilings=plan.ceilings, bodies=bodies, sections=sections, reloads=reloads)
