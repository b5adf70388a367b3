"""Scripts of the console: lines that are commands, and lines of a program text."""

from deadbeat.caches import LINE_SIZES, MOST_SETS, MOST_WAYS
from deadbeat.cpu import GREATEST_COST, PORTS
from deadbeat.errors import CommandError
from deadbeat.parsing import LONGEST_TIME
from deadbeat.tokens import decimal_number
from deadbeat.words import GREATEST_WORD

# The least values of the costs.
LEAST_COSTS = {
    "fetch_hit": 1, "fetch_miss": 1, "plain": 1, "mul": 1, "div": 1, "load_hit": 1, "load_miss": 1, "store": 1,
    "taken": 1, "count": 1, "port": 1, "release": 0, "switch": 0, "enter": 0, "leave": 0, "finish": 0,
}
GREATEST_NUMBER = 10
MOST_IN_A_LINE = 64
END_OF_TEXT = "."


def read_commands(script):
    """The commands of a script: tuples of a command's name and its arguments. Raises CommandError."""
    lines = script.split("\n")
    commands = []
    at = 0
    while at < len(lines):
        words = [word for word in lines[at].split(" ") if word != ""]
        # Lines count from 1, so this is the number of the line, and the index of the next one.
        at += 1
        if words == ["program"]:
            end = _end_of_text(lines, at)
            commands.append(("program", "".join([line + "\n" for line in lines[at:end]])))
            at = end + 1
        elif len(words) > 0 and not words[0].startswith("#"):
            commands.append(_command(words, at))
    return commands


def _end_of_text(lines, at):
    """The index of the line that ends the program text behind the line with a number. Raises CommandError."""
    for end in range(at, len(lines)):
        if lines[end] == END_OF_TEXT:
            return end
    raise CommandError(at)


def _command(words, line):
    """The command of the words of a line, other than a program text. Raises CommandError."""
    name, *given = words
    match name:
        case "check" | "print" | "size" | "admit":
            _demand(len(given) == 0, line)
            return (name,)
        case "run" | "judge":
            _demand(len(given) == 1, line)
            return (name, _number(given[0], 0, LONGEST_TIME, line))
        case "cost":
            _demand(len(given) == 2 and given[0] in LEAST_COSTS, line)
            return (name, given[0], _number(given[1], LEAST_COSTS[given[0]], GREATEST_COST, line))
        case "code" | "data":
            return (name, _shape(given, line))
        case "release":
            return _with_list(words, 1, GREATEST_NUMBER, LONGEST_TIME, line)
        case "input":
            return _with_list(words, 0, PORTS - 1, GREATEST_WORD, line)
        case _:
            raise CommandError(line)


def _demand(holds, line):
    if not holds:
        raise CommandError(line)


def _number(word, least, most, line):
    """The number that a word stands for, in a range. Raises CommandError."""
    value = decimal_number(word)
    _demand(value is not None and least <= value <= most, line)
    return value


def _shape(given, line):
    """The shape of a cache: sets, ways and line size. Raises CommandError."""
    _demand(len(given) == 3, line)
    size = _number(given[2], 1, LINE_SIZES[-1], line)
    _demand(size in LINE_SIZES, line)
    return (_number(given[0], 1, MOST_SETS, line), _number(given[1], 1, MOST_WAYS, line), size)


def _with_list(words, least, most, most_of_list, line):
    """A command with a number in a range and a list of numbers from 0 on. Raises CommandError."""
    name, *given = words
    _demand(1 <= len(given) <= 1 + MOST_IN_A_LINE, line)
    number = _number(given[0], least, most, line)
    return (name, number, [_number(word, 0, most_of_list, line) for word in given[1:]])
