"""Measures: what straight ways count by a row of rates."""

from tautstrings.reader import pairs_told

HIGHEST = 1000


def in_bounds(east, north):
    return -HIGHEST <= east <= HIGHEST and -HIGHEST <= north <= HIGHEST


def rates_told(numbers):
    """The rates that a list tells two by two, or None if it doesn't tell one good one at least."""
    rates = pairs_told(numbers)
    if rates is None or len(rates) == 0:
        return None
    if not all([in_bounds(east, north) for east, north in rates]):
        return None
    return rates


def way_counts(a, b, rates):
    dx = b[0] - a[0]
    dy = b[1] - a[1]
    return max([dx * east + dy * north for east, north in rates])


def measure_of(places, rates):
    return sum([way_counts(places[k], places[k + 1], rates) for k in range(len(places) - 1)])
