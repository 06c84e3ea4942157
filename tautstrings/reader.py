"""Reads calls out of the one list in which they stand one behind another."""


class Reader:
    """Goes along the list by a position of its own, so that the list stays as it is."""

    def __init__(self, calls):
        self.calls = calls
        self.position = 0

    def at_end(self):
        return self.position >= len(self.calls)

    def number(self):
        value = self.calls[self.position]
        self.position = self.position + 1
        return value

    def row(self):
        size = self.number()
        start = self.position
        self.position = start + size
        return self.calls[start:start + size]


def pairs_told(numbers):
    """The numbers two by two, or None if one is left over."""
    if len(numbers) % 2 == 1:
        return None
    return [(numbers[k], numbers[k + 1]) for k in range(0, len(numbers), 2)]
