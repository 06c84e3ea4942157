"""Courses, and how a track's string is held against them."""

from tautstrings.cord import string_touches
from tautstrings.reader import pairs_told

NO_MARK = -1


def names_marks(port, starboard, many):
    """Whether each of the two is no mark or one of so many, and one at least is a mark."""
    if not (NO_MARK <= port < many and NO_MARK <= starboard < many):
        return False
    return port != NO_MARK or starboard != NO_MARK


def course_told(numbers, many):
    """The course that a list tells, two numbers for each part of it, or None if it's none among so many marks."""
    course = pairs_told(numbers)
    if course is None:
        return None
    if not all([names_marks(port, starboard, many) for port, starboard in course]):
        return None
    return course


def marks_named(course, marks):
    """The places of the marks that hold the string for the course."""
    return [place for number, place in enumerate(marks)
            if any([number == port or number == starboard for port, starboard in course])]


def meets(touch, gate, marks):
    """Whether the touch meets a part of a course: its mark to port and its mark to starboard."""
    # Marks are told by their places: the string among some of them has numbers of its own.
    number = gate[0] if touch.side == 1 else gate[1]
    return number != NO_MARK and marks[number] == touch.place


def taken_touches(touches, course, marks):
    """The numbers of the touches that are taken, one for each part of the course as far as it comes."""
    taken = []
    for number, touch in enumerate(touches):
        if len(taken) == len(course):
            break
        if meets(touch, course[len(taken)], marks):
            taken.append(number)
    return taken


def sailed_touches(places, course, marks):
    """The same, of the track's string among the marks that the course names."""
    return taken_touches(string_touches(places, marks_named(course, marks)), course, marks)
