"""alike and wind."""

from itertools import product
from random import Random

from tautstrings.desk import answers
from tests.helper import (CallCase, EDGE, HUGE, alike, all_marks, ask, calls_of, drawn_marks, drawn_track, laid,
                          many_tracks, mark, plain_word, points, run, track, wind)

RIGHTWARDS = [-3, 0, 0, 3, 3, 0, 0, -3]
LEFTWARDS = [-3, 0, 0, -3, 3, 0, 0, 3]
HOME = [-3, 0]


class Alike(CallCase):
    def test_whole_list(self):
        self.assertEqual(answers([1, 0, 0, 2, 4, -1, 1, 1, 1, 2, 6, -1, 1, 0, 5, 1, 1, 10, 0, 1]),
                         [1, 0, 1, 0, 1, 1, 1, 1])
        self.assertEqual(answers([1, 0, 0, 2, 4, -1, 1, 1, 1, 2, 6, -1, 1, 0, -5, 1, 1, 10, 0, 1]),
                         [1, 0, 1, 0, 1, 1, 1, 0])

    def test_with_itself(self):
        self.check((mark(0, 0), [0]), (track(-1, 1, 1, 1, 5, -5), [0]), (alike(0, 0), [1]))
        self.check((track(4, 4, 4, 4), [0]), (alike(0, 0), [1]))

    def test_above_and_below(self):
        self.check((mark(0, 0), [0]), (mark(0, 4), [1]), (track(-3, 0, 0, 9, 3, 0), [0]),
                   (track(-3, 0, 0, 2, 3, 0), [1]), (track(-3, 0, 0, -2, 3, 0), [2]),
                   (track(-3, 0, 1, 3, -1, 1, 3, 0), [3]),
                   (alike(0, 1), [0]), (alike(1, 0), [0]), (alike(0, 2), [0]), (alike(1, 2), [0]), (alike(1, 3), [1]),
                   (alike(3, 1), [1]), (alike(0, 3), [0]), (alike(2, 3), [0]))

    def test_how_often_round(self):
        self.check((mark(0, 0), [0]), (track(*RIGHTWARDS, *HOME), [0]), (track(*RIGHTWARDS, *RIGHTWARDS, *HOME), [1]),
                   (track(*LEFTWARDS, *HOME), [2]), (track(*LEFTWARDS, *RIGHTWARDS, *RIGHTWARDS, *HOME), [3]),
                   (track(*HOME, *HOME), [4]), (track(*RIGHTWARDS, *LEFTWARDS, *HOME), [5]),
                   (alike(0, 1), [0]), (alike(0, 2), [0]), (alike(0, 3), [1]), (alike(1, 3), [0]), (alike(4, 5), [1]),
                   (alike(0, 4), [0]), (alike(2, 4), [0]))

    def test_the_same_turns_in_another_order(self):
        # Round both marks as often, and yet not alike.
        one = [0, -4, -5, 0, 0, 4]
        other = [0, -4, 5, 0, 0, 4]
        self.check((mark(-2, 0), [0]), (mark(2, 0), [1]), (track(*one, *other, 0, -4), [0]),
                   (track(*other, *one, 0, -4), [1]), (wind(0, 0), [0, -1]), (wind(1, 0), [0, -1]),
                   (wind(0, 1), [0, 1]), (wind(1, 1), [0, 1]), (alike(0, 1), [0]), (alike(1, 1), [1]))

    def test_no_such_track(self):
        self.check((alike(0, 0), [-2]), (track(0, 0, 1, 1), [0]), (alike(0, 1), [-2]), (alike(1, 0), [-2]),
                   (alike(-1, 0), [-2]), (alike(0, -1), [-2]), (alike(HUGE, 0), [-2]), (alike(0, -HUGE), [-2]),
                   (alike(0, 0), [1]))

    def test_ends_unlike(self):
        self.check((track(0, 0, 1, 1), [0]), (track(0, 0, 2, 1), [1]), (track(0, 2, 1, 1), [2]),
                   (track(1, 1, 0, 0), [3]), (track(0, 0, 5, 5, 1, 1), [4]), (track(0, 0, 1, 2), [5]),
                   (alike(0, 1), [-7]), (alike(0, 2), [-7]), (alike(1, 2), [-7]), (alike(0, 3), [-7]),
                   (alike(3, 0), [-7]), (alike(0, 5), [-7]), (alike(0, 4), [1]))

    def test_no_such_track_comes_first(self):
        self.check((track(0, 0, 1, 1), [0]), (track(0, 0, 2, 1), [1]), (alike(0, 2), [-2]), (alike(2, 1), [-2]))


class Wind(CallCase):
    def test_whole_list(self):
        self.assertEqual(answers([1, 0, 0, 2, 10, *LEFTWARDS, *HOME, 12, 0, 0]), [1, 0, 1, 0, 2, 0, 1])
        self.assertEqual(answers([1, 0, 0, 2, 10, *RIGHTWARDS, *HOME, 12, 0, 0]), [1, 0, 1, 0, 2, 0, -1])

    def test_several_times(self):
        for times in (1, 2, 3, 7):
            self.check((mark(0, 0), [0]), (track(*LEFTWARDS * times, *HOME), [0]), (wind(0, 0), [0, times]))
            self.check((mark(0, 0), [0]), (track(*RIGHTWARDS * times, *HOME), [0]), (wind(0, 0), [0, -times]))
        places = [(-3, 0), (0, -3), (3, 0), (0, 3)] * 49 + [(-3, 0)]
        self.check((mark(0, 0), [0]), *run(0, places), (wind(0, 0), [0, 49]))

    def test_one_way_less_the_other(self):
        self.check((mark(0, 0), [0]), (track(*LEFTWARDS, *RIGHTWARDS, *HOME), [0]), (wind(0, 0), [0, 0]),
                   (track(*LEFTWARDS, *RIGHTWARDS, *LEFTWARDS, *HOME), [1]), (wind(1, 0), [0, 1]),
                   (track(*RIGHTWARDS, *LEFTWARDS, *RIGHTWARDS, *HOME), [2]), (wind(2, 0), [0, -1]))

    def test_0(self):
        self.check((mark(0, 0), [0]), (track(5, 5, 5, 5), [0]), (wind(0, 0), [0, 0]), (track(-1, 1, 1, 1, -1, 1), [1]),
                   (wind(1, 0), [0, 0]), (track(1, 1, 9, 1, 9, 9, 1, 1), [2]), (wind(2, 0), [0, 0]),
                   (track(-1, -1, 1, -1, 1, -9, -1, -1), [3]), (wind(3, 0), [0, 0]))

    def test_each_mark_by_itself(self):
        self.check((mark(0, 0), [0]), (mark(6, 0), [1]), (mark(0, 9), [2]), (mark(3, 3), [3]),
                   (track(3, 0, 0, 3, -3, 0, 0, -3, 3, 0, 6, 3, 9, 0, 6, -3, 3, 0), [0]),
                   (wind(0, 0), [0, 1]), (wind(0, 1), [0, -1]), (wind(0, 2), [0, 0]), (wind(0, 3), [0, 0]))

    def test_no_such_mark(self):
        self.check((track(*LEFTWARDS, *HOME), [0]), (wind(0, 0), [-1]))
        self.check((mark(0, 0), [0]), (mark(9, 0), [1]), (track(*LEFTWARDS, *HOME), [0]), (wind(0, 2), [-1]),
                   (wind(0, -1), [-1]), (wind(0, HUGE), [-1]), (wind(0, -HUGE), [-1]), (wind(0, 1), [0, 0]))

    def test_no_such_track(self):
        self.check((mark(0, 0), [0]), (wind(0, 0), [-2]), (track(*LEFTWARDS, *HOME), [0]), (wind(1, 0), [-2]),
                   (wind(-1, 0), [-2]), (wind(HUGE, 0), [-2]), (wind(-HUGE, 0), [-2]))

    def test_ends_unlike(self):
        self.check((mark(0, 0), [0]), (track(*LEFTWARDS), [0]), (wind(0, 0), [-7]), (track(-3, 0, -3, 1), [1]),
                   (wind(1, 0), [-7]), (track(-3, 0, -4, 0), [2]), (wind(2, 0), [-7]))

    def test_no_such_mark_comes_first(self):
        self.check((wind(0, 0), [-1]), (mark(0, 0), [0]), (wind(0, 1), [-1]), (wind(-1, -1), [-1]),
                   (track(*LEFTWARDS), [0]), (wind(0, 1), [-1]), (wind(1, 1), [-1]), (wind(1, 0), [-2]))

    def test_edges_of_the_range(self):
        ring = [-EDGE, -EDGE, EDGE, -EDGE, EDGE, EDGE, -EDGE, EDGE]
        self.check((mark(EDGE - 1, EDGE - 1), [0]), (mark(0, 0), [1]), (track(*ring, *ring, *ring[:2]), [0]),
                   (wind(0, 0), [0, 2]), (wind(0, 1), [0, 2]))

    def test_changes_nothing(self):
        kept = [(points(0), [5, *LEFTWARDS, *HOME]), (points(1), [-2]), (all_marks(), [1, 0, 0])]
        self.check((mark(0, 0), [0]), (track(*LEFTWARDS, *HOME), [0]), *kept, (wind(0, 0), [0, 1]), (wind(0, 1), [-1]),
                   (alike(0, 0), [1]), (alike(0, 1), [-2]), *kept, (wind(0, 0), [0, 1]))

    def test_every_small_square(self):
        grid = list(product(range(-2, 3), repeat=2))
        for x, y in grid:
            for side in (1, 2):
                ring = [x, y, x + side, y, x + side, y + side, x, y + side, x, y]
                given = ask(mark(0, 0), track(*ring), wind(0, 0))[1:]
                if given[0] == [0]:
                    self.assertEqual(given[1], [0, 1 if x < 0 < x + side and y < 0 < y + side else 0])

    def test_drawn_tracks(self):
        rng = Random(51)
        for turn in range(300):
            marks = drawn_marks(rng, 4, 3)
            first = drawn_track(rng, marks, 2, 3)[0]
            places = drawn_track(rng, marks, rng.randint(3, 15), 3, first, first)
            letters = plain_word(places, marks)
            expected = [[0, letters.count(m + 1) - letters.count(-m - 1)] for m in range(4)]
            self.assertEqual(ask(*calls_of(laid(marks) + run(0, places)), *[wind(0, m) for m in range(4)])[-4:],
                             expected)

    def test_8_tracks_are_no_matter(self):
        self.check((mark(0, 0), [0]), *many_tracks(7), (track(*LEFTWARDS, *HOME), [7]), (wind(7, 0), [0, 1]),
                   (alike(7, 7), [1]), (alike(7, 8), [-2]))
