"""The stack of the jobs that have begun and not ended."""


class Stack:
    """The numbers of the jobs and the objects that each has entered, those of the job on top last."""

    def __init__(self, ceilings):
        self.ceilings = list(ceilings)
        self.numbers = []
        self.entered = []

    def top(self):
        """The number of the job on top, or 0 if there is none."""
        if len(self.numbers) == 0:
            return 0
        return self.numbers[-1]

    def level(self):
        """The level of the job on top, or 0 if there is none."""
        if len(self.numbers) == 0:
            return 0
        return self.level_of(self.numbers[-1], self.entered[-1])

    def levels(self):
        """All levels, from the bottom to the top."""
        return [self.level_of(number, objects) for number, objects in zip(self.numbers, self.entered)]

    def level_of(self, number, objects):
        """The level of a job with a number that is in some objects."""
        return max([number] + [self.ceilings[item] for item in objects])

    def push(self, number):
        """Pushes a job that is in no object."""
        self.numbers.append(number)
        self.entered.append([])

    def drop(self):
        """Removes the job on top. Returns whether it was in no object."""
        self.numbers.pop()
        return len(self.entered.pop()) == 0

    def is_free(self):
        """Whether the job on top is in no object."""
        return len(self.entered[-1]) == 0

    def can_enter(self, item):
        """Whether there is such an object and no job is in it."""
        return 0 <= item < len(self.ceilings) and not any([item in objects for objects in self.entered])

    def can_leave(self, item):
        """Whether the job on top entered an object last."""
        return self.entered[-1][-1:] == [item]

    def enter_object(self, item):
        """Lets the job on top enter an object. Returns False, without a change, if it cannot."""
        if not self.can_enter(item):
            return False
        self.entered[-1].append(item)
        return True

    def leave_object(self, item):
        """Lets the job on top leave an object. Returns False, without a change, if it cannot."""
        if not self.can_leave(item):
            return False
        self.entered[-1].pop()
        return True
