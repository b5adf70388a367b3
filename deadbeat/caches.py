"""Caches with sets, ways and lines."""

from deadbeat.errors import PlanError

MOST_SETS = 64
MOST_WAYS = 4
LINE_SIZES = (1, 2, 4, 8, 16)
GREATEST_LINE = 16383


class Cache:
    """A cache; each set keeps its lines in order of use, the most recently used one first."""

    def __init__(self, sets, ways, size):
        if not 1 <= sets <= MOST_SETS:
            raise PlanError(sets)
        if not 1 <= ways <= MOST_WAYS:
            raise PlanError(ways)
        if size not in LINE_SIZES:
            raise PlanError(size)
        self.sets = sets
        self.ways = ways
        self.size = size
        self.rows = [[] for _ in range(sets)]

    def fill(self, rows):
        """Replaces the contents by a copy of others."""
        if len(rows) != self.sets:
            raise PlanError(len(rows))
        for number, lines in enumerate(rows):
            if not self.fits(number, lines):
                raise PlanError(number)
        self.rows = [list(lines) for lines in rows]

    def fits(self, number, lines):
        """Whether lines can be the contents of the set with a number."""
        if len(lines) > self.ways or len(set(lines)) < len(lines):
            return False
        return all([0 <= line <= GREATEST_LINE and line % self.sets == number for line in lines])

    def holds(self, address):
        """Whether the cache holds the line of an address."""
        line = address // self.size
        return line in self.rows[line % self.sets]

    def read(self, address):
        """Reads an address and tells whether it was a hit."""
        hit = self.holds(address)
        self.use(address)
        return hit

    def write(self, address):
        """Writes an address and tells whether it was a hit."""
        hit = self.holds(address)
        if hit:
            self.use(address)
        return hit

    def use(self, address):
        """Makes the line of an address the most recently used one of its set."""
        line = address // self.size
        lines = self.rows[line % self.sets]
        if line in lines:
            lines.remove(line)
        elif len(lines) == self.ways:
            lines.pop()
        lines.insert(0, line)

    def duplicate(self):
        """A cache with the same sizes and equal contents."""
        other = Cache(self.sets, self.ways, self.size)
        other.rows = [list(lines) for lines in self.rows]
        return other
