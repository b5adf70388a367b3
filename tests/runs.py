"""Runs of single jobs without interference, with what is seen at each instruction."""

from deadbeat.caches import Cache
from deadbeat.cpu import Board, Core, step


def new_board(shapes, inputs=(), chance=None):
    """A board with empty caches, or with random contents of the caches."""
    caches = [Cache(*shape) for shape in shapes]
    if chance:
        for cache in caches:
            cache.fill([chance.sample([number + cache.sets * k for k in range(8)], chance.randrange(cache.ways + 1))
                        for number in range(cache.sets)])
    return Board(*caches, list(inputs))


class Run:
    """Executes the routine at a code address up to its end; `look` is called ahead of each instruction."""

    def __init__(self, costs, code, start, board, look=None, limit=200000):
        self.core, self.board = Core(start), board
        # Instructions as (address, cost with the kernel act, instruction, number of calls around).
        self.steps = []
        depth = 0
        while limit:
            limit -= 1
            at = self.core.at
            if look:
                look(at, depth)
            cost, instruction = step(costs, code, self.core, board)
            assert instruction is not None
            name = instruction[0]
            cost += {"enter": costs.enter, "leave": costs.leave, "done": costs.finish}.get(name, 0)
            self.steps.append((at, cost, instruction, depth))
            depth += {"link": 1, "back": -1}.get(name, 0)
            if name == "done" or depth < 0:
                break
        self.time = sum(cost for _, cost, _, _ in self.steps)
