"""Promises 1 and 2, and the string as the document describes it, on many drawn tracks."""

import unittest
from random import Random

from tests.helper import (EDGE, alike, ask, calls_of, cord_beside, drawn_marks, drawn_track, faults_of_string, free_way,
                          join, laid, measure, part, plain_word, reduced, reduced_plainly, reverse, run, scaled,
                          string, touches_in)

# One rate, several, one by which all ways count alike as far, some that lean, and the greatest there are.
RATES = ([1, 0], [0, -1], [3, 7], [1, 0, -1, 0, 0, 1, 0, -1], [1, 1, 1, -1, -1, 1, -1, -1], [5, 1, -2, 3, -2, -9],
         [2, 1, 3, 2], [-7, -1, -3, -3], [1000, 1000, -1000, -1000, 1000, -1000, -1000, 1000],
         [100, 0, 92, 38, 71, 71, 38, 92, 0, 100, -38, 92, -71, 71, -92, 38, -100, 0, -92, -38, -71, -71, -38, -92,
          0, -100, 38, -92, 71, -71, 92, -38])


def told_string(marks, places):
    return touches_in(ask(*calls_of(laid(marks) + run(0, places)), string(0))[-1])


def ends(rng, marks, reach):
    """Two places to begin and end at, often the same one."""
    first = drawn_track(rng, marks, 2, reach)[0]
    return first, first if rng.random() < 0.5 else drawn_track(rng, marks, 2, reach)[0]


def drawn_pair(rng):
    """Marks, and two tracks among them with the same ends."""
    reach = rng.choice([1, 2, 3])
    marks = drawn_marks(rng, rng.randint(1, 4), reach)
    first, last = ends(rng, marks, reach)
    longest = rng.choice([3, 4, 6, 9])
    return marks, [drawn_track(rng, marks, longest, reach, first, last) for k in range(2)]


def with_detours(rng, marks, places, reach):
    """A track that lies alike with this one: there and back to some place at every corner."""
    told = []
    for place in places:
        told.append(place)
        away = (rng.randint(-reach, reach), rng.randint(-reach, reach))
        if free_way(place, away, marks):
            told += [away, place]
    return told


class FourPoints(unittest.TestCase):
    def holds(self, marks, places, scale):
        touches = told_string(marks, places)
        self.assertEqual(faults_of_string(places, marks, touches, scale), [], (marks, places, touches))
        return touches

    def test_small_tracks(self):
        rng = Random(11)
        touches = []
        for turn in range(3000):
            reach = rng.choice([1, 2, 3, 4])
            marks = drawn_marks(rng, rng.randint(0, 8), reach)
            touches += self.holds(marks, drawn_track(rng, marks, rng.randint(2, 12), reach), 10 ** 4)
        # The drawn tracks are to come across every sort of touch.
        for side in (1, -1):
            for halves in (1, 2, 3):
                for just in (1, 0):
                    self.assertIn((side, halves, just), {touch[3:] for touch in touches})

    def test_every_mark_on_few_lines(self):
        rng = Random(12)
        for turn in range(1500):
            marks = rng.sample([(x, y) for x in range(-4, 5) for y in (0, rng.choice([0, 1, 3]))], rng.randint(2, 8))
            marks = sorted(set(marks), key=marks.index)
            self.holds(marks, drawn_track(rng, marks, rng.randint(3, 14), 4), 10 ** 4)

    def test_long_tracks_among_16_marks(self):
        rng = Random(13)
        for turn in range(40):
            reach = rng.choice([2, 3, 5, 30])
            marks = drawn_marks(rng, 16, reach)
            places = drawn_track(rng, marks, 200, reach)
            self.assertEqual(len(places), 200)
            self.holds(marks, places, 10 ** 4)

    def test_far_out(self):
        # Small tracks laid out to the edges by a map that leaves straight ways straight, some shifted by a hair then.
        rng = Random(14)
        seen = 0
        while seen < 400:
            marks = drawn_marks(rng, rng.randint(1, 16), 3)
            places = drawn_track(rng, marks, rng.choice([3, 6, 20, 60]), 3)
            a, b, c, d = [rng.randint(-EDGE // 8, EDGE // 8) for k in range(4)]
            hair = rng.choice([0, 1])

            def laid_out(x, y):
                return (a * x + b * y + rng.randint(-hair, hair), c * x + d * y + rng.randint(-hair, hair))
            marks = [laid_out(x, y) for x, y in marks]
            places = [laid_out(x, y) for x, y in places]
            if len(set(marks)) == len(marks) and all(free_way(*way, marks) for way in zip(places, places[1:])):
                self.holds(marks, places, 10 ** 8)
                seen += 1


class Promise1(unittest.TestCase):
    def test_no_track_that_lies_alike_is_shorter(self):
        rng = Random(21)
        several = 0
        for turn in range(200):
            marks, pair = drawn_pair(rng)
            pair.append(with_detours(rng, marks, pair[0], 5))
            asked = [measure(t, *rates) for rates in RATES for t in range(3)]
            given = ask(*calls_of(laid(marks) + run(0, pair[0]) + run(1, pair[1]) + run(2, pair[2])), alike(0, 1),
                        alike(0, 2), *asked)
            self.assertEqual(given[-len(asked) - 1], [1])
            alikes = [0, 2] if given[-len(asked) - 2] == [0] else [0, 1, 2]
            several += len(alikes) == 3
            for k in range(len(RATES)):
                told = given[len(given) - len(asked) + 3 * k:][:3]
                for t in range(3):
                    self.assertGreaterEqual(told[t][1], told[t][2])
                for t in alikes:
                    self.assertEqual(told[t][2], told[0][2])
        self.assertGreater(several, 30)

    def test_the_cord_beside_its_marks_lies_alike_and_is_no_shorter(self):
        rng = Random(22)
        seen = 0
        while seen < 200:
            reach = rng.choice([2, 3])
            marks = drawn_marks(rng, rng.randint(1, 6), reach)
            places = drawn_track(rng, marks, rng.randint(3, 10), reach)
            path = cord_beside(places[0], places[-1], told_string(marks, places), 10 ** 4)
            if len(path) > 200:
                continue
            seen += 1
            asked = [measure(t, *rates) for rates in RATES for t in (0, 1)]
            given = ask(*calls_of(laid(scaled(marks, 10 ** 4)) + run(0, scaled(places, 10 ** 4)) + run(1, path)),
                        alike(0, 1), string(0), string(1), *asked)
            self.assertEqual(given[-len(asked) - 3], [1])
            self.assertEqual(given[-len(asked) - 2], given[-len(asked) - 1])
            for k in range(len(RATES)):
                track, beside = given[len(given) - len(asked) + 2 * k:][:2]
                self.assertEqual(track[2], beside[2])
                self.assertGreaterEqual(track[1], track[2])
                self.assertGreaterEqual(beside[1], beside[2])


class Promise2(unittest.TestCase):
    def test_same_strings_same_words_alike(self):
        rng = Random(31)
        count = {0: 0, 1: 0}
        for turn in range(2500):
            marks, pair = drawn_pair(rng)
            given = ask(*calls_of(laid(marks) + run(0, pair[0]) + run(1, pair[1])), alike(0, 1), alike(1, 0),
                        string(0), string(1), reduced(0), reduced(1))[-6:]
            self.assertIn(given[0], ([0], [1]))
            said = given[0][0]
            count[said] += 1
            self.assertEqual(given[1], [said])
            self.assertEqual(given[2] == given[3], said == 1, (marks, pair))
            self.assertEqual(given[4] == given[5], said == 1, (marks, pair))
            words = [reduced_plainly(plain_word(places, marks)) for places in pair]
            self.assertEqual(words[0] == words[1], said == 1, (marks, pair))
        self.assertGreater(count[0], 500)
        self.assertGreater(count[1], 500)

    def test_detours_that_go_round_nothing(self):
        rng = Random(32)
        for turn in range(500):
            marks = drawn_marks(rng, rng.randint(1, 8), 4)
            places = drawn_track(rng, marks, rng.randint(2, 12), 4)
            other = with_detours(rng, marks, places, 9)
            given = ask(*calls_of(laid(marks) + run(0, places) + run(1, other)), alike(0, 1), string(0), string(1),
                        reduced(0), reduced(1))[-5:]
            self.assertEqual(given[0], [1])
            self.assertEqual(given[1], given[2])
            self.assertEqual(given[3], given[4])


class MadeOutOfOthers(unittest.TestCase):
    def test_backwards(self):
        rng = Random(41)
        for turn in range(300):
            marks = drawn_marks(rng, rng.randint(1, 8), 4)
            places = drawn_track(rng, marks, rng.randint(2, 12), 4)
            there, made, back, joined, whole = ask(*calls_of(laid(marks) + run(0, places)), string(0), reverse(0),
                                                   string(1), join(0, 1), string(2))[-5:]
            self.assertEqual([made, joined, whole], [[1], [2], [0]])
            turned = [(x, y, m, -side, halves, just) for x, y, m, side, halves, just in touches_in(there)[::-1]]
            self.assertEqual(touches_in(back), turned)

    def test_parts_joined_are_the_whole(self):
        rng = Random(42)
        for turn in range(300):
            marks = drawn_marks(rng, rng.randint(1, 8), 4)
            places = drawn_track(rng, marks, rng.randint(3, 12), 4)
            while len(places) < 3:
                places = drawn_track(rng, marks, 12, 4)
            i = rng.randint(1, len(places) - 2)
            given = ask(*calls_of(laid(marks) + run(0, places)), part(0, 0, i), part(0, i, len(places) - 1),
                        join(1, 2), alike(0, 3), string(0), string(3))[-6:]
            self.assertEqual(given[:4], [[1], [2], [3], [1]])
            self.assertEqual(given[4], given[5])
