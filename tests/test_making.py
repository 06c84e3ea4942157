"""reverse, join and part: tracks made out of tracks."""

from tautstrings.desk import answers
from tests.helper import (CallCase, HUGE, begin, flat, join, long_points, long_track, many_tracks, mark, more, part,
                          points, put, reverse, run, string, track, word)

THREE = [(track(0, 0, 1, 2, 5, 5), [0])]
FULL = [(track(0, 0, 1, 2, 5, 5), [0]), (track(5, 5, 0, 0), [1]), *[(track(k, 9, 9, k), [k]) for k in range(2, 8)]]


def row(first, n):
    """n places along y = 700 from x = first on."""
    return [(first + k, 700) for k in range(n)]


def told(places):
    return [len(places), *flat(places)]


class Reverse(CallCase):
    def test_whole_list(self):
        self.assertEqual(answers([2, 6, 0, 0, 1, 2, 5, 5, 13, 0, 6, 1]), [1, 0, 1, 1, 7, 3, 5, 5, 1, 2, 0, 0])

    def test_the_old_track_stays(self):
        self.check(*THREE, (reverse(0), [1]), (points(0), [3, 0, 0, 1, 2, 5, 5]), (points(1), [3, 5, 5, 1, 2, 0, 0]),
                   (reverse(1), [2]), (points(2), [3, 0, 0, 1, 2, 5, 5]), (points(1), [3, 5, 5, 1, 2, 0, 0]))

    def test_what_is_changed_later_is_one_of_them_alone(self):
        self.check(*THREE, (reverse(0), [1]), (more(0, 7, 7), [4]), (put(1, 0, 8, 8), [4]),
                   (points(0), [4, 0, 0, 1, 2, 5, 5, 7, 7]), (points(1), [4, 5, 5, 8, 8, 1, 2, 0, 0]))

    def test_the_word_goes_backwards(self):
        self.check((mark(0, 0), [0]), (mark(4, 0), [1]), (track(-2, 1, 6, 1), [0]), (reverse(0), [1]),
                   (word(0), [2, -1, -2]), (word(1), [2, 2, 1]))

    def test_200_places(self):
        self.check(*long_track(200), (reverse(0), [1]), (points(1), told(row(0, 200)[::-1])),
                   (points(0), long_points(200)))

    def test_no_such_track(self):
        self.check((reverse(0), [-2]), *THREE, (reverse(1), [-2]), (reverse(-1), [-2]), (reverse(HUGE), [-2]),
                   (reverse(-HUGE), [-2]), (points(1), [-2]))

    def test_8_tracks(self):
        self.check(*many_tracks(7), (reverse(3), [7]), (reverse(3), [-3]), (points(7), [2, 3, 501, 0, 500]),
                   (points(8), [-2]))

    def test_no_such_track_comes_first(self):
        self.check(*many_tracks(8), (reverse(8), [-2]), (reverse(-1), [-2]), (reverse(0), [-3]))


class Join(CallCase):
    def test_whole_list(self):
        self.assertEqual(answers([2, 4, 0, 0, 1, 2, 2, 6, 1, 2, 5, 5, 7, -7, 14, 0, 1, 6, 2]),
                         [1, 0, 1, 1, 1, 2, 9, 4, 0, 0, 1, 2, 5, 5, 7, -7])

    def test_the_old_tracks_stay(self):
        self.check(*THREE, (track(5, 5, 8, 1), [1]), (join(0, 1), [2]), (points(2), [4, 0, 0, 1, 2, 5, 5, 8, 1]),
                   (points(0), [3, 0, 0, 1, 2, 5, 5]), (points(1), [2, 5, 5, 8, 1]), (more(0, 6, 6), [4]),
                   (put(1, 0, 3, 3), [3]), (points(2), [4, 0, 0, 1, 2, 5, 5, 8, 1]), (more(2, 9, 9), [5]),
                   (points(0), [4, 0, 0, 1, 2, 5, 5, 6, 6]), (points(1), [3, 5, 5, 3, 3, 8, 1]))

    def test_with_itself(self):
        self.check((track(0, 0, 3, 0, 3, 3, 0, 0), [0]), (join(0, 0), [1]),
                   (points(1), [7, 0, 0, 3, 0, 3, 3, 0, 0, 3, 0, 3, 3, 0, 0]), (points(0), [4, 0, 0, 3, 0, 3, 3, 0, 0]))

    def test_the_same_place_twice_stays_twice(self):
        self.check((track(0, 0, 1, 1, 1, 1), [0]), (track(1, 1, 1, 1, 2, 2), [1]), (join(0, 1), [2]),
                   (points(2), [5, 0, 0, 1, 1, 1, 1, 1, 1, 2, 2]))

    def test_words_and_strings_go_on(self):
        self.check((mark(0, 0), [0]), (track(-3, 0, 0, 3, 3, 0), [0]), (track(3, 0, 0, -3, -3, 0), [1]),
                   (join(0, 1), [2]), (join(2, 2), [3]), (string(2), [1, 0, 0, 0, -1, 2, 1]), (word(2), [1, -1]),
                   (string(3), [1, 0, 0, 0, -1, 4, 1]), (word(3), [2, -1, -1]))

    def test_no_such_track(self):
        self.check((join(0, 0), [-2]), *THREE, (join(0, 1), [-2]), (join(1, 0), [-2]), (join(-1, 0), [-2]),
                   (join(0, -1), [-2]), (join(HUGE, 0), [-2]), (join(0, -HUGE), [-2]), (points(1), [-2]))

    def test_ends_unlike(self):
        self.check(*THREE, (track(0, 0, 9, 9), [1]), (track(5, 6, 0, 0), [2]), (track(6, 5, 0, 0), [3]),
                   (join(0, 0), [-7]), (join(0, 1), [-7]), (join(1, 0), [-7]), (join(0, 2), [-7]), (join(0, 3), [-7]),
                   (points(4), [-2]), (join(2, 0), [4]))

    def test_200_places_and_one_more(self):
        joined = row(0, 200)
        self.check(*run(0, row(0, 100)), *run(1, row(99, 101)), *run(2, row(99, 102)), (join(0, 1), [3]),
                   (points(3), told(joined)), (join(0, 2), [-3]), (points(4), [-2]), (points(0), told(row(0, 100))),
                   (points(2), told(row(99, 102))))
        self.check(*run(0, row(0, 200)), *run(1, row(199, 2)), (join(0, 1), [-3]), (points(2), [-2]))
        self.check(*run(0, row(0, 199)), *run(1, row(198, 2)), (join(0, 1), [2]), (points(2), told(joined)))

    def test_8_tracks(self):
        self.check(*FULL[:7], (join(0, 1), [7]), (join(0, 1), [-3]), (points(7), [4, 0, 0, 1, 2, 5, 5, 0, 0]),
                   (points(8), [-2]))

    def test_no_such_track_comes_first(self):
        self.check(*FULL, (join(0, 8), [-2]), (join(8, 0), [-2]), (join(-1, 1), [-2]))
        self.check(*run(0, row(0, 200)), (join(0, 1), [-2]))

    def test_ends_unlike_come_before_too_many(self):
        self.check(*FULL, (join(0, 0), [-7]), (join(0, 2), [-7]), (join(0, 1), [-3]))
        self.check(*run(0, row(0, 200)), *run(1, row(0, 200)), (join(0, 1), [-7]), (join(0, 0), [-7]))


class Part(CallCase):
    def test_whole_list(self):
        self.assertEqual(answers([2, 8, 0, 0, 1, 2, 5, 5, 7, -7, 15, 0, 1, 2, 6, 1]),
                         [1, 0, 1, 1, 5, 2, 1, 2, 5, 5])

    def test_places_i_to_j(self):
        places = [(0, 0), (1, 2), (5, 5), (7, -7)]
        pairs = [(i, j) for i in range(4) for j in range(i + 1, 4)]
        made = [(part(0, i, j), [k + 1]) for k, (i, j) in enumerate(pairs)]
        seen = [(points(k + 1), told(places[i:j + 1])) for k, (i, j) in enumerate(pairs)]
        self.check(*run(0, places), *made, *seen, (points(0), told(places)))

    def test_the_old_track_stays(self):
        self.check(*THREE, (part(0, 0, 2), [1]), (part(0, 1, 2), [2]), (more(1, 9, 9), [4]), (put(0, 0, 8, 8), [4]),
                   (points(0), [4, 0, 0, 8, 8, 1, 2, 5, 5]), (points(1), [4, 0, 0, 1, 2, 5, 5, 9, 9]),
                   (points(2), [2, 1, 2, 5, 5]))

    def test_no_such_track(self):
        self.check((part(0, 0, 1), [-2]), *THREE, (part(1, 0, 1), [-2]), (part(-1, 0, 1), [-2]),
                   (part(HUGE, 0, 1), [-2]), (part(-HUGE, 0, 1), [-2]), (points(1), [-2]))

    def test_out_of_the_track(self):
        for i, j in ((0, 3), (2, 3), (-1, 1), (-1, 0), (-2, -1), (0, 0), (1, 1), (2, 2), (2, 1), (1, 0), (2, 0),
                     (0, HUGE), (-HUGE, 1), (HUGE, HUGE), (0, -1), (1, -1), (0, -HUGE), (HUGE, 0)):
            self.check(*THREE, (part(0, i, j), [-1]), (points(1), [-2]), (points(0), [3, 0, 0, 1, 2, 5, 5]))
        self.check(*THREE, (part(0, 0, 2), [1]), (part(0, 1, 2), [2]), (part(0, 0, 1), [3]))

    def test_200_places(self):
        self.check(*long_track(200), (part(0, 0, 199), [1]), (points(1), long_points(200)), (part(0, 0, 200), [-1]),
                   (part(0, 198, 199), [2]), (points(2), [2, 198, 700, 199, 700]))

    def test_8_tracks(self):
        self.check(*FULL[:7], (part(0, 0, 1), [7]), (part(0, 0, 1), [-3]), (points(7), [2, 0, 0, 1, 2]),
                   (points(8), [-2]))

    def test_no_such_track_comes_first(self):
        self.check((part(0, 1, 0), [-2]), *THREE, (part(1, 1, 0), [-2]), (part(-1, -1, HUGE), [-2]))
        self.check(*FULL, (part(8, 0, 1), [-2]), (part(8, 1, 0), [-2]))

    def test_out_of_the_track_comes_before_8_tracks(self):
        self.check(*FULL, (part(0, 0, 3), [-1]), (part(0, 1, 1), [-1]), (part(0, -1, 1), [-1]), (part(0, 0, 1), [-3]))


class Numbers(CallCase):
    def test_new_tracks_are_numbered_on(self):
        self.check((track(0, 0, 3, 3, 0, 0), [0]), (reverse(0), [1]), (join(0, 1), [2]), (part(2, 1, 3), [3]),
                   (track(1, 1, 2, 2), [4]), (reverse(3), [5]), (points(3), [3, 3, 3, 0, 0, 3, 3]), (begin(), [0]),
                   (reverse(0), [-2]), (track(0, 0, 1, 1), [0]), (reverse(0), [1]))

    def test_a_mark_is_refused_behind_them(self):
        self.check(*THREE, (reverse(0), [1]), (mark(9, 9), [-4]))
