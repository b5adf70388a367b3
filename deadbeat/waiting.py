"""The jobs that are released and have not begun."""


class Waiting:
    """A queue of release times for each number, and which numbers have a job that has begun."""

    def __init__(self):
        self.queues = {}
        self.begun = {}

    def arrive(self, number, time):
        """Appends a release time to the queue of a number."""
        self.queues.setdefault(number, []).append(time)

    def highest(self):
        """The greatest number that has a release time and no begun job, or 0 if there is none."""
        ready = [number for number, times in self.queues.items() if len(times) > 0 and number not in self.begun]
        return max(ready, default=0)

    def begin(self, number):
        """Begins a job of a ready number and returns its release time."""
        self.begun[number] = True
        return self.queues[number].pop(0)

    def end(self, number):
        """Ends the begun job of a number."""
        del self.begun[number]

    def times(self, number):
        """The release times in the queue of a number."""
        return list(self.queues.get(number, []))
