"""Corners that are drawn straight, and the marks that catch the cord then."""

from tautstrings.pieces import lies_on, turn


def marks_in_corner(u, v, w, side, marks):
    """The numbers of the marks over which the corner at v goes as it's drawn to the straight way from u to w."""
    # No mark lies between u and v or between v and w, and what stands at u, v or w itself is not gone over: so the
    # two borders at v are shut out, with their ends. If u, v and w are on one line, nothing is left.
    return [number for number, place in enumerate(marks)
            if side * turn(u, v, place) > 0 and side * turn(v, w, place) > 0 and side * turn(w, u, place) >= 0]


def next_caught(here, w, side, numbers, marks):
    """The mark that stands first on the border towards the corner, on the way from here to w; None if there's none."""
    found = None
    goal = w
    for number in numbers:
        place = marks[number]
        if side * turn(here, goal, place) < 0 or lies_on(place, here, goal):
            found = number
            goal = place
    return found


def caught_marks(u, v, w, side, marks):
    """The numbers of the marks that catch the cord as its corner v between u and w is drawn straight, in order."""
    left = marks_in_corner(u, v, w, side, marks)
    caught = []
    here = u
    number = next_caught(here, w, side, left, marks)
    while number is not None:
        caught.append(number)
        left.remove(number)
        here = marks[number]
        number = next_caught(here, w, side, left, marks)
    return caught
