"""Calls written by name, and a check of the whole list that is given back."""

import unittest

from tautstrings.desk import answers

EDGE = 1000000
HUGE = 1000000000000000000


def begin():
    return [0]


def mark(x, y):
    return [1, x, y]


def track(*numbers):
    return [2, len(numbers), *numbers]


def touch(*numbers):
    return [3, len(numbers), *numbers]


def more(t, *numbers):
    return [4, t, len(numbers), *numbers]


def put(t, i, x, y):
    return [5, t, i, x, y]


def points(t):
    return [6, t]


def word(t):
    return [7, t]


def reduced(t):
    return [8, t]


def flat(rows):
    return [number for row in rows for number in row]


def ask(*calls):
    """The answers to the calls, one list for each."""
    told = answers(flat(calls))
    split = []
    at = 0
    while at < len(told):
        split.append(told[at + 1:at + 1 + told[at]])
        at += 1 + told[at]
    return split


class CallCase(unittest.TestCase):
    def check(self, *steps):
        """Each step is a call and its answer; the whole list given back is compared."""
        calls = [call for call, answer in steps]
        self.assertLessEqual(len(calls), 100)
        expected = flat([[len(answer), *answer] for call, answer in steps])
        handed = flat(calls)
        given = answers(handed)
        if given != expected:
            self.assertEqual(ask(*calls), [answer for call, answer in steps])
        self.assertEqual(given, expected)


def many_marks(n):
    """n marks far to the south-west of everything else, with their answers."""
    return [(mark(-900000 + k, -900000), [k]) for k in range(n)]


def many_tracks(n):
    return [(track(0, 500, k, 501), [k]) for k in range(n)]


def long_track(n):
    """Track 0 with n places along y = 700, 30 places a call, with the answers."""
    first = min(n, 30)
    steps = [(track(*flat([[k, 700] for k in range(first)])), [0])]
    have = first
    while have < n:
        then = min(n, have + 30)
        steps.append((more(0, *flat([[k, 700] for k in range(have, then)])), [then]))
        have = then
    return steps


def long_points(n):
    return [n, *flat([[k, 700] for k in range(n)])]
