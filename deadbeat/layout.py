"""Where the data of a program lies."""

from deadbeat.trees import statements


def loop_count(body):
    """The number of loop statements in a body, nested ones included."""
    return len([statement for statement in statements(body) if statement[0] == "loop"])


def layout(program, line):
    """The groups of a program, each on data lines of its own."""
    _, _, _, objects, tasks, _ = program
    groups = []
    for o, (_, _, fields, operations) in enumerate(objects):
        groups.append(_cell_group(("object", o), _next_start(groups, line), fields, []))
        for k, operation in enumerate(operations):
            groups.append(_operation_group(("operation", o, k), _next_start(groups, line), operation))
    for t, (_, _, _, _, cells, body) in enumerate(tasks):
        groups.append(_cell_group(("task", t), _next_start(groups, line), cells, body))
    return groups


def _next_start(groups, line):
    """The first address of a line from the end of the last group on."""
    end = data_size(groups)
    return end + -end % line


class Room:
    """Data addresses that are given away one after the other."""

    def __init__(self, at):
        self.at = at

    def take(self, many):
        """The first of as many addresses, which are given away."""
        first = self.at
        self.at += many
        return first

    def cells(self, rows):
        """Gives addresses to fields or locals."""
        return [(name, self.take(_words(many)), many) for name, many in rows]

    def words(self, many):
        """Gives addresses to a number of single words."""
        return [self.take(1) for _ in range(many)]


def _words(many):
    """The number of words of a cell with a size, which is 0 for a single cell."""
    return max(many, 1)


def _cell_group(owner, start, rows, body):
    """The group of an object, whose body is empty, or of a task."""
    room = Room(start)
    cells = room.cells(rows)
    variables = room.words(loop_count(body))
    return (owner, start, [], cells, variables, None, None)


def _operation_group(owner, start, operation):
    _, _, params, rows, body, result = operation
    room = Room(start)
    placed = room.cells([(name, 0) for name in params])
    cells = room.cells(rows)
    variables = room.words(loop_count(body))
    result_word = None if result is None else room.take(1)
    return (owner, start, placed, cells, variables, result_word, room.take(1))


def data_size(groups):
    """The end of the last group, or 0 if there is none."""
    if len(groups) == 0:
        return 0
    _, start, params, cells, variables, result, back = groups[-1]
    ends = [at + _words(many) for _, at, many in params + cells]
    ends.extend([at + 1 for at in variables + [result, back] if at is not None])
    return max(ends, default=start)


def find_group(groups, owner):
    """The group with an owner, or None if there is none."""
    for group in groups:
        if group[0] == owner:
            _, start, params, cells, variables, result, back = group
            return (owner, start, list(params), list(cells), list(variables), result, back)
    return None


def visible(groups, routine):
    """The names of the cells that the code of a routine can use, with their addresses and sizes."""
    owners = [routine]
    if routine[0] == "operation":
        owners.append(("object", routine[1]))
    names = {}
    for owner in owners:
        group = find_group(groups, owner)
        if group is not None:
            for name, at, many in group[2] + group[3]:
                names[name] = (at, many)
    return names
