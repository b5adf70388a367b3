"""Systems: programs that are loaded for a processor and can be run."""

from deadbeat.admit import starts_of
from deadbeat.caches import Cache
from deadbeat.cpu import Board
from deadbeat.images import build, watches
from deadbeat.kernel import Kernel, Setup
from deadbeat.orders import ceilings, numbers
from deadbeat.releases import Timeline, accepted


class System:
    """A system that can be run repeatedly."""

    def __init__(self, *, setup, every, code_cache, data_cache):
        self.setup = setup
        self.every = dict(every)
        self.code_cache = code_cache.duplicate()
        self.data_cache = data_cache.duplicate()

    def run(self, releases, inputs, horizon):
        """Runs the system up to a time and returns its kernel."""
        rows = [(number, accepted(times, self.every[number])) for number, times in releases.items()]
        kernel = Kernel(self.setup, Board(self.code_cache, self.data_cache, inputs), Timeline(rows))
        while kernel.now < horizon and kernel.advance():
            pass
        return kernel


def load(program, processor):
    """The system of a program for a processor, with empty caches."""
    code_shape, data_shape, costs = processor
    image = build(program, code_shape[2], data_shape[2])
    setup = Setup(
        code=image[1], starts=starts_of(program, image), ceilings=ceilings(program), watches=watches(image), costs=costs
    )
    every = {number: row[2] for number, row in zip(numbers(program), program[4] + program[5])}
    return System(setup=setup, every=every, code_cache=Cache(*code_shape), data_cache=Cache(*data_shape))
