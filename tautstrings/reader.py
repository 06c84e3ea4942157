"""Reads calls out of the one list in which they stand one behind another."""


class Reader:
    """Goes along the list by a position of its own, so that the list stays as it is."""

    def __init__(self, calls):
        self.calls = calls
        self.position = 0

    def at_end(self):
        return self.position >= len(self.calls)

    def number(self):
        value = self.calls[self.position]
        self.position = self.position + 1
        return value

    def row(self):
        size = self.number()
        start = self.position
        self.position = start + size
        return self.calls[start:start + size]
