"""Releases of tasks and interrupts."""


def accepted(times, every):
    """The times that are accepted, ascending: each is not too close to the one before it."""
    found = []
    for time in sorted(times):
        if len(found) == 0 or time - found[-1] >= every:
            found.append(time)
    return found


class Timeline:
    """Releases of several numbers that are still to come."""

    def __init__(self, rows):
        # In the order in which they are taken: by time, and then by number.
        self.coming = sorted([(time, number) for number, times in rows for time in times])
        self.taken = 0

    def next_time(self):
        """The time of the release that is taken next, or None if there is none."""
        if self.taken == len(self.coming):
            return None
        return self.coming[self.taken][0]

    def take(self):
        """Removes the release that is taken next and returns its time and number, or None if there is none."""
        if self.taken == len(self.coming):
            return None
        self.taken += 1
        return self.coming[self.taken - 1]
