"""The numbers of tasks and interrupts, which are their priorities, and the ceilings of objects."""

from deadbeat.rules import reached, used

FIRST_INTERRUPT = 9


def numbers(program):
    """The numbers of all tasks and then of all interrupts, in the order of the text."""
    tasks = program[4]
    # Of two equal deadlines the later task stands first, and so gets the lower number.
    rows = sorted([(-task[3], -t) for t, task in enumerate(tasks)])
    by_tasks = [rows.index((-task[3], -t)) + 1 for t, task in enumerate(tasks)]
    return by_tasks + [FIRST_INTERRUPT + i for i in range(len(program[5]))]


def ceilings(program):
    """The ceilings of the objects, in the order of the text."""
    users = list(zip(numbers(program), used(program)))
    found = []
    for indexes in reached(program):
        found.append(max([number for number, row in users if _overlap(row, indexes)], default=0))
    return found


def _overlap(row, other):
    return any([index in other for index in row])


def owner(program, number):
    """The routine of the task or interrupt with a number, or None if there is none."""
    found = numbers(program)
    if number not in found:
        return None
    index = found.index(number)
    if index < len(program[4]):
        return ("task", index)
    return ("interrupt", index - len(program[4]))
