"""Places, and the straight pieces between them, in whole numbers alone."""

from tautstrings.reader import pairs_told

FARTHEST = 1000000


def in_range(x, y):
    return -FARTHEST <= x <= FARTHEST and -FARTHEST <= y <= FARTHEST


def places_told(numbers, least):
    """The places that a list tells two by two, or None if it doesn't tell so many good ones."""
    places = pairs_told(numbers)
    if places is None or len(places) < least:
        return None
    if not all([in_range(x, y) for x, y in places]):
        return None
    return places


def turn(a, b, place):
    """Above 0 if the place lies to the left of the way from a to b, below 0 to the right, else 0."""
    return (b[0] - a[0]) * (place[1] - a[1]) - (b[1] - a[1]) * (place[0] - a[0])


def lies_on(place, a, b):
    # The bounds matter even on one line: they shut out what lies beyond the ends,
    # and they alone judge a piece whose two places are the same one.
    if turn(a, b, place) != 0:
        return False
    within_x = min(a[0], b[0]) <= place[0] <= max(a[0], b[0])
    within_y = min(a[1], b[1]) <= place[1] <= max(a[1], b[1])
    return within_x and within_y


def first_touch(places, marks):
    """The first piece on which a mark lies and the least number of such a mark, or None."""
    for piece in range(len(places) - 1):
        for number, place in enumerate(marks):
            if lies_on(place, places[piece], places[piece + 1]):
                return (piece, number)
    return None
