"""Counts of what was started and finished."""


class Tally:
    """Counts each block that runs with it, also one that raises an error."""

    def __init__(self):
        self.started = 0
        self.finished = 0

    def __enter__(self):
        self.started += 1

    def __exit__(self, kind, value, trace):
        self.finished += 1

    def counts(self):
        return (self.started, self.finished)
