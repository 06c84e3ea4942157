"""The words of tracks: which rays they cross, and what is left of that when reduced."""

from tautstrings.pieces import turn


def rays_from_west(marks):
    """The marks' numbers in the order in which a way going east meets their rays."""
    # Rays lean to the east, so of two marks with one x the upper one's ray is further west.
    return sorted(range(len(marks)), key=lambda number: (marks[number][0], -marks[number][1]))


def passes_eastward(a, b, place):
    """Whether the piece from a to b crosses the ray of a mark at the place from west to east."""
    return a[0] <= place[0] < b[0] and turn(a, b, place) < 0


def ray_crossing(a, b, place):
    """1 if the way from a to b crosses the ray of a mark at the place leftwards, -1 if rightwards, else 0."""
    if passes_eastward(a, b, place):
        return -1
    if passes_eastward(b, a, place):
        return 1
    return 0


def piece_letters(a, b, marks, rays):
    # A piece that goes west crosses just those rays that it crosses eastward when gone backwards.
    if a[0] < b[0]:
        return [-(number + 1) for number in rays if passes_eastward(a, b, marks[number])]
    return [number + 1 for number in reversed(rays) if passes_eastward(b, a, marks[number])]


def word_of(places, marks):
    rays = rays_from_west(marks)
    letters = []
    for k in range(len(places) - 1):
        letters.extend(piece_letters(places[k], places[k + 1], marks, rays))
    return letters


def reduced_word(letters):
    # What is kept is reduced at every step, so only its last letter can go out with a new one.
    kept = []
    for letter in letters:
        if len(kept) > 0 and kept[-1] == -letter:
            kept.pop()
        else:
            kept.append(letter)
    return kept


def winding(places, place):
    """How often the track goes round a mark at the place leftwards, less how often rightwards."""
    return sum([ray_crossing(places[k], places[k + 1], place) for k in range(len(places) - 1)])
