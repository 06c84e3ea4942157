"""Calls written by name, checks of the whole list that is given back, and the document's words told a second way."""

import unittest
from fractions import Fraction

from tautstrings.desk import answers

EDGE = 1000000
HUGE = 1000000000000000000
LEAN = Fraction(1, 10 ** 9)


def begin():
    return [0]


def mark(x, y):
    return [1, x, y]


def track(*numbers):
    return [2, len(numbers), *numbers]


def touch(*numbers):
    return [3, len(numbers), *numbers]


def more(t, *numbers):
    return [4, t, len(numbers), *numbers]


def put(t, i, x, y):
    return [5, t, i, x, y]


def points(t):
    return [6, t]


def word(t):
    return [7, t]


def reduced(t):
    return [8, t]


def string(t):
    return [9, t]


def alike(t, u):
    return [10, t, u]


def sails(t, *numbers):
    return [11, t, len(numbers), *numbers]


def wind(t, m):
    return [12, t, m]


def reverse(t):
    return [13, t]


def join(t, u):
    return [14, t, u]


def part(t, i, j):
    return [15, t, i, j]


def measure(t, *numbers):
    return [16, t, len(numbers), *numbers]


def all_marks():
    return [17]


def flat(rows):
    return [number for row in rows for number in row]


def ask(*calls):
    """The answers to the calls, one list for each."""
    told = answers(flat(calls))
    split = []
    at = 0
    while at < len(told):
        split.append(told[at + 1:at + 1 + told[at]])
        at += 1 + told[at]
    return split


class CallCase(unittest.TestCase):
    def check(self, *steps):
        """Each step is a call and its answer; the whole list given back is compared."""
        calls = [call for call, answer in steps]
        self.assertLessEqual(len(calls), 100)
        expected = flat([[len(answer), *answer] for call, answer in steps])
        handed = flat(calls)
        given = answers(handed)
        if given != expected:
            self.assertEqual(ask(*calls), [answer for call, answer in steps])
        self.assertEqual(given, expected)


def many_marks(n):
    """n marks far to the south-west of everything else, with their answers."""
    return [(mark(-900000 + k, -900000), [k]) for k in range(n)]


def many_tracks(n):
    return [(track(0, 500, k, 501), [k]) for k in range(n)]


def long_track(n):
    """Track 0 with n places along y = 700, 30 places a call, with the answers."""
    first = min(n, 30)
    steps = [(track(*flat([[k, 700] for k in range(first)])), [0])]
    have = first
    while have < n:
        then = min(n, have + 30)
        steps.append((more(0, *flat([[k, 700] for k in range(have, then)])), [then]))
        have = then
    return steps


def long_points(n):
    return [n, *flat([[k, 700] for k in range(n)])]


def laid(places):
    """The marks at these places, with their answers."""
    return [(mark(*place), [k]) for k, place in enumerate(places)]


def run(t, places):
    """Track t through these places, 30 places a call, with the answers."""
    steps = [(track(*flat(places[:30])), [t])]
    for k in range(30, len(places), 30):
        steps.append((more(t, *flat(places[k:k + 30])), [min(k + 30, len(places))]))
    return steps


def calls_of(steps):
    return [call for call, answer in steps]


def leaning_word(places, marks):
    """The word told another way: by the rays as they are thought to be, leaning a hair to the east."""
    letters = []
    for a, b in zip(places, places[1:]):
        met = []
        for number, (x, y) in enumerate(marks):
            # Above 0 to the east of the line on which the ray lies.
            before = (a[0] - x) - LEAN * (a[1] - y)
            behind = (b[0] - x) - LEAN * (b[1] - y)
            if (before > 0) == (behind > 0):
                continue
            share = before / (before - behind)
            if a[1] + share * (b[1] - a[1]) > y:
                met.append((share, -(number + 1) if behind > 0 else number + 1))
        letters.extend(letter for share, letter in sorted(met))
    return letters


def slowly_reduced(letters):
    letters = list(letters)
    while True:
        at = [k for k in range(len(letters) - 1) if letters[k] == -letters[k + 1]]
        if not at:
            return letters
        del letters[at[-1]:at[-1] + 2]


def less(a, b):
    return (a[0] - b[0], a[1] - b[1])


def cross(a, b):
    return a[0] * b[1] - a[1] * b[0]


def dot(a, b):
    return a[0] * b[0] + a[1] * b[1]


def in_triangle(place, u, v, w):
    sides = [cross(less(b, a), less(place, a)) for a, b in ((u, v), (v, w), (w, u))]
    return min(sides) >= 0 or max(sides) <= 0


def on_way(place, a, b):
    """Whether the place lies on the straight way from a to b: it is seen from there in both ends' midst."""
    return cross(less(a, place), less(b, place)) == 0 and dot(less(a, place), less(b, place)) <= 0


def plain_word(places, marks):
    """The word by the document's rule, in whole numbers, and so for places of any size."""
    order = sorted(range(len(marks)), key=lambda number: (marks[number][0], -marks[number][1]))
    letters = []
    for a, b in zip(places, places[1:]):
        east = [-(m + 1) for m in order if a[0] <= marks[m][0] < b[0] and cross(less(b, a), less(marks[m], a)) < 0]
        west = [m + 1 for m in order if b[0] <= marks[m][0] < a[0] and cross(less(b, a), less(marks[m], a)) > 0]
        letters.extend(east + west[::-1])
    return letters


def reduced_plainly(letters):
    kept = []
    for letter in letters:
        if kept and kept[-1] == -letter:
            kept.pop()
        else:
            kept.append(letter)
    return kept


def scaled(places, scale):
    return [(x * scale, y * scale) for x, y in places]


def touches_in(answer):
    """The touches that string has answered, six numbers each."""
    assert len(answer) == 1 + 6 * answer[0], answer
    return [tuple(answer[k:k + 6]) for k in range(1, len(answer), 6)]


def steps_round(d, e, side, halves, just):
    """Directions from d to e, by so many half turns to the side and the rest behind them; each step is a short one."""
    steps = [d]
    for quarter in range(2 * halves):
        steps.append((-side * steps[-1][1], side * steps[-1][0]))
    bend = side * cross(steps[-1], e)
    # Just so many half turns end in e's direction; else e is to be seen within the half turn that would come next.
    assert (bend == 0 and dot(steps[-1], e) > 0) if just else bend > 0, (d, e, side, halves, just)
    if dot(steps[-1], e) <= 0:
        steps.append((-side * steps[-1][1], side * steps[-1][0]))
    return steps + [e]


def cord_beside(first, last, touches, scale):
    """The string as a track so many times as large, which passes beside its marks as the touches tell."""
    nodes = [first] + [(touch[0], touch[1]) for touch in touches] + [last]
    path = scaled([first], scale)
    for k, (x, y, number, side, halves, just) in enumerate(touches):
        before = less(nodes[k], (x, y))
        behind = less(nodes[k + 2], (x, y))
        for step in steps_round(before, behind, side, halves, just):
            path.append((x * scale + step[0], y * scale + step[1]))
    return path + scaled([last], scale)


def faults_of_string(places, marks, touches, scale):
    """What of the document's four points does not hold of these touches as the string of the track."""
    nodes = [places[0]] + [(touch[0], touch[1]) for touch in touches] + [places[-1]]
    faults = []
    for x, y, number, side, halves, just in touches:
        if not 0 <= number < len(marks) or marks[number] != (x, y):
            faults.append("a node stands at no mark")
        if side not in (1, -1) or halves < 1 or just not in (0, 1):
            faults.append("less than half a turn")
    if any(a[2] == b[2] for a, b in zip(touches, touches[1:])):
        faults.append("two nodes one behind the other at one mark")
    for a, b in zip(nodes, nodes[1:]):
        if any(place not in (a, b) and on_way(place, a, b) for place in marks):
            faults.append("a mark between two nodes")
    if not faults:
        path = cord_beside(places[0], places[-1], touches, scale)
        spelt = reduced_plainly(plain_word(path, scaled(marks, scale)))
        if spelt != reduced_plainly(plain_word(places, marks)):
            faults.append("does not lie alike with the track")
    return faults


def free_way(a, b, marks):
    return not any(on_way(place, a, b) for place in marks)


def drawn_marks(rng, many, reach):
    grid = [(x, y) for x in range(-reach, reach + 1) for y in range(-reach, reach + 1)]
    return rng.sample(grid, min(many, len(grid)))


def drawn_track(rng, marks, many, reach, first=None, last=None):
    """A track of at most so many places which no mark lies on; some come again, some twice in a row, some turn back."""
    while True:
        places = [] if first is None else [first]
        for k in range(20 * many):
            if len(places) == many - (last is not None):
                break
            place = (rng.randint(-reach - 1, reach + 1), rng.randint(-reach - 1, reach + 1))
            if places and rng.random() < 0.15:
                place = rng.choice(places[-2:])
            if free_way(places[-1] if places else place, place, marks):
                places.append(place)
        if last is not None and places and free_way(places[-1], last, marks):
            places.append(last)
        if len(places) >= 2 and last in (None, places[-1]):
            return places
