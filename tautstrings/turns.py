"""Turns round a mark, kept exactly.

As one goes past a mark one is seen from it first in the direction of the place before, at last in that of the place
behind. All that these two directions don't tell is how many whole turns there are, and that is told by the laps: how
often the mark's ray is crossed on the way leftwards, less how often rightwards.
"""

from tautstrings.pieces import turn


def in_second_half(centre, place):
    """Whether turning leftwards from the ray of the centre takes half a turn or more till the place is seen."""
    return place[0] > centre[0] or (place[0] == centre[0] and place[1] < centre[1])


def seen_sooner(centre, a, b):
    """Whether, as one turns leftwards from the ray of the centre, a is seen sooner than b."""
    if in_second_half(centre, a) != in_second_half(centre, b):
        return in_second_half(centre, b)
    return turn(centre, a, b) > 0


def same_direction(centre, a, b):
    along = (a[0] - centre[0]) * (b[0] - centre[0]) + (a[1] - centre[1]) * (b[1] - centre[1])
    return turn(centre, a, b) == 0 and along > 0


def half_turns(centre, before, behind, laps):
    """How many half turns it is leftwards, rounded down (below 0: rightwards), and 1 if it's just so many, else 0."""
    whole = 2 * laps
    if seen_sooner(centre, behind, before):
        whole = whole - 2
    bend = turn(centre, before, behind)
    if bend > 0 or same_direction(centre, before, behind):
        return (whole, 1 if bend == 0 else 0)
    return (whole + 1, 1 if bend == 0 else 0)


def turn_past(centre, before, behind, laps):
    """The same as a touch tells it: the side, how many whole half turns, and 1 if it's just so many, else 0."""
    told = half_turns(centre, before, behind, laps)
    whole = told[0]
    just = told[1]
    if whole >= 0:
        return (1, whole, just)
    # Rounded down is rounded away from 0 here.
    return (-1, -whole - 1 + just, just)


def laps_past(centre, before, behind, side):
    """The laps of less than one whole turn, leftwards if the side is 1, rightwards if it's -1."""
    laps = 1 if seen_sooner(centre, behind, before) else 0
    return laps if side == 1 else laps - 1
