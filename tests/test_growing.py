"""more and put."""

from tautstrings.desk import answers
from tests.helper import (CallCase, EDGE, HUGE, long_points, long_track, many_tracks, mark, more, points, put, track,
                          word)

FAR = (EDGE + 1, HUGE, -EDGE - 1, -HUGE)


class More(CallCase):
    def test_whole_list(self):
        self.assertEqual(answers([2, 4, 0, 0, 1, 1, 4, 0, 4, 2, 3, -5, -6, 6, 0]),
                         [1, 0, 1, 4, 9, 4, 0, 0, 1, 1, 2, 3, -5, -6])

    def test_one_place_again_and_again(self):
        self.check((track(0, 0, 1, 1), [0]), (more(0, 1, 1), [3]), (more(0, 5, 5), [4]),
                   (points(0), [4, 0, 0, 1, 1, 1, 1, 5, 5]))

    def test_edges_of_the_range(self):
        self.check((track(0, 0, 1, 1), [0]), (more(0, EDGE, -EDGE, -EDGE, EDGE), [4]),
                   (points(0), [4, 0, 0, 1, 1, EDGE, -EDGE, -EDGE, EDGE]))

    def test_bad_list(self):
        self.check((track(0, 0, 1, 1), [0]), (more(0), [-1]), (more(0, 1), [-1]), (more(0, 1, 2, 3), [-1]),
                   (more(0, *range(59)), [-1]), (points(0), [2, 0, 0, 1, 1]))
        for far in FAR:
            self.check((track(0, 0, 1, 1), [0]), (more(0, far, 0), [-1]), (more(0, 0, far), [-1]),
                       (more(0, 1, 1, far, 0), [-1]), (more(0, 1, 1, 0, far), [-1]), (points(0), [2, 0, 0, 1, 1]))

    def test_no_such_track(self):
        self.check((more(0, 1, 1), [-2]), (track(0, 0, 1, 1), [0]), (more(1, 1, 1), [-2]), (more(-1, 1, 1), [-2]),
                   (more(HUGE, 1, 1), [-2]), (more(-HUGE, 1, 1), [-2]), (points(0), [2, 0, 0, 1, 1]))

    def test_200_places_and_one_more(self):
        self.check(*long_track(199), (more(0, 1, 1, 2, 2), [-3]), (points(0), long_points(199)),
                   (more(0, 199, 700), [200]), (more(0, 1, 1), [-3]), (points(0), long_points(200)))
        self.check(*long_track(170), (more(0, *[5] * 60), [200]))
        self.check(*long_track(171), (more(0, *[5] * 60), [-3]), (points(0), long_points(171)))

    def test_a_full_board_does_not_stop_it(self):
        self.check(*many_tracks(8), (more(7, 1, 1), [3]), (points(7), [3, 0, 500, 7, 501, 1, 1]))

    def test_a_mark_on_it(self):
        self.check((mark(0, 0), [0]), (track(-3, 3, -3, 0), [0]), (more(0, 3, 0), [-5]), (more(0, 0, 0), [-5]),
                   (more(0, -3, 9, 5, 5, -5, -5), [-5]), (points(0), [2, -3, 3, -3, 0]), (more(0, -1, 0), [3]))

    def test_bad_list_comes_first(self):
        self.check((more(0), [-1]), (more(0, 1), [-1]), (more(5, 1, 1, 1), [-1]), (more(-1, EDGE + 1, 1), [-1]),
                   (more(HUGE, 1, 1, 1, -HUGE), [-1]))
        self.check(*long_track(200), (more(0), [-1]), (more(0, 1), [-1]), (more(0, 1, EDGE + 1), [-1]))
        self.check((mark(0, 0), [0]), (track(-3, 3, -3, 0), [0]), (more(0, 3, 0, 1), [-1]),
                   (more(0, 3, 0, HUGE, 0), [-1]), (more(0, 0), [-1]))

    def test_no_such_track_comes_before_the_rest(self):
        self.check((mark(0, 0), [0]), (track(-3, 3, -3, 0), [0]), (more(1, 0, 0), [-2]))
        self.check(*many_tracks(8), (more(8, 1, 1), [-2]))
        self.check(*long_track(200), (more(1, 1, 1), [-2]))

    def test_too_many_places_come_before_a_mark(self):
        self.check((mark(0, 0), [0]), *long_track(200), (more(0, 0, 0), [-3]), (points(0), long_points(200)))
        self.check((mark(0, 0), [0]), *long_track(199), (more(0, 0, 0, 1, 1), [-3]), (more(0, 0, 0), [-5]),
                   (points(0), long_points(199)))


class Put(CallCase):
    def test_whole_list(self):
        self.assertEqual(answers([2, 4, 0, 0, 1, 1, 5, 0, 0, 7, -8, 6, 0]), [1, 0, 1, 3, 7, 3, 0, 0, 7, -8, 1, 1])

    def test_behind_place_i(self):
        start = (track(0, 0, 1, 1, 2, 2, 3, 3), [0])
        self.check(start, (put(0, 0, 9, 8), [5]), (points(0), [5, 0, 0, 9, 8, 1, 1, 2, 2, 3, 3]))
        self.check(start, (put(0, 1, 9, 8), [5]), (points(0), [5, 0, 0, 1, 1, 9, 8, 2, 2, 3, 3]))
        self.check(start, (put(0, 2, 9, 8), [5]), (points(0), [5, 0, 0, 1, 1, 2, 2, 9, 8, 3, 3]))

    def test_i_out_of_its_range(self):
        self.check((track(0, 0, 1, 1, 2, 2), [0]), (put(0, -1, 9, 9), [-1]), (put(0, 2, 9, 9), [-1]),
                   (put(0, 3, 9, 9), [-1]), (put(0, HUGE, 9, 9), [-1]), (put(0, -HUGE, 9, 9), [-1]),
                   (points(0), [3, 0, 0, 1, 1, 2, 2]), (put(0, 1, 9, 9), [4]), (put(0, 3, 8, 8), [-1]),
                   (put(0, 2, 8, 8), [5]), (points(0), [5, 0, 0, 1, 1, 9, 9, 8, 8, 2, 2]))
        self.check((track(0, 0, 1, 1), [0]), (put(0, 1, 9, 9), [-1]), (put(0, -1, 9, 9), [-1]), (put(0, 0, 9, 9), [3]))

    def test_edges_of_the_range(self):
        self.check((track(0, 0, 1, 1), [0]), (put(0, 0, EDGE, -EDGE), [3]), (put(0, 1, -EDGE, EDGE), [4]),
                   (points(0), [4, 0, 0, EDGE, -EDGE, -EDGE, EDGE, 1, 1]))

    def test_out_of_range(self):
        for far in FAR:
            self.check((track(0, 0, 1, 1), [0]), (put(0, 0, far, 0), [-1]), (put(0, 0, 0, far), [-1]),
                       (put(0, 0, far, far), [-1]), (points(0), [2, 0, 0, 1, 1]))

    def test_no_such_track(self):
        self.check((put(0, 0, 1, 1), [-2]), (track(0, 0, 1, 1), [0]), (put(1, 0, 1, 1), [-2]),
                   (put(-1, 0, 1, 1), [-2]), (put(HUGE, 0, 1, 1), [-2]), (put(-HUGE, 0, 1, 1), [-2]),
                   (points(0), [2, 0, 0, 1, 1]))

    def test_200_places_and_one_more(self):
        grown = [200, 0, 700, 5, 5] + long_points(199)[3:]
        self.check(*long_track(199), (put(0, 0, 5, 5), [200]), (put(0, 0, 6, 6), [-3]), (put(0, 198, 6, 6), [-3]),
                   (points(0), grown))
        grown = [200] + long_points(198)[1:] + [5, 5, 198, 700]
        self.check(*long_track(199), (put(0, 197, 5, 5), [200]), (points(0), grown))

    def test_a_full_board_does_not_stop_it(self):
        self.check(*many_tracks(8), (put(7, 0, 1, 1), [3]), (points(7), [3, 0, 500, 1, 1, 7, 501]))

    def test_a_mark_on_it(self):
        self.check((mark(0, 0), [0]), (track(-3, 0, 0, 3), [0]), (put(0, 0, 3, 0), [-5]), (put(0, 0, 0, -3), [-5]),
                   (put(0, 0, 0, 0), [-5]), (points(0), [2, -3, 0, 0, 3]), (put(0, 0, -1, 0), [3]))

    def test_place_out_of_range_comes_first(self):
        self.check((put(0, 0, EDGE + 1, 0), [-1]), (put(-1, -1, 0, HUGE), [-1]), (track(0, 0, 1, 1), [0]),
                   (put(1, 0, 0, -EDGE - 1), [-1]), (put(0, 5, EDGE + 1, 0), [-1]))
        self.check(*long_track(200), (put(0, 0, EDGE + 1, 0), [-1]))
        self.check((mark(0, 0), [0]), (track(-3, 0, 0, 3), [0]), (put(0, 0, EDGE + 1, 0), [-1]))

    def test_no_such_track_comes_before_i(self):
        self.check((put(0, -1, 1, 1), [-2]), (track(0, 0, 1, 1), [0]), (put(1, -1, 1, 1), [-2]),
                   (put(1, 5, 1, 1), [-2]), (put(-1, HUGE, 1, 1), [-2]))
        self.check((mark(0, 0), [0]), (track(-3, 0, 0, 3), [0]), (put(1, 0, 0, 0), [-2]))

    def test_i_comes_before_the_rest(self):
        self.check(*long_track(200), (put(0, 199, 1, 1), [-1]), (put(0, -1, 1, 1), [-1]), (put(0, 198, 1, 1), [-3]))
        self.check((mark(0, 0), [0]), (track(-3, 0, 0, 3), [0]), (put(0, 1, 0, 0), [-1]), (put(0, -1, 0, 0), [-1]))

    def test_too_many_places_come_before_a_mark(self):
        self.check((mark(0, 0), [0]), *long_track(200), (put(0, 0, 0, 0), [-3]), (points(0), long_points(200)))
        self.check((mark(0, 0), [0]), *long_track(199), (put(0, 0, 0, 0), [-5]), (points(0), long_points(199)))

    def test_the_word_goes_with_it(self):
        self.check((mark(0, 0), [0]), (track(-3, -1, 3, -1), [0]), (word(0), [0]), (put(0, 0, 0, 2), [3]),
                   (word(0), [1, -1]), (more(0, -3, 9), [4]), (word(0), [2, -1, 1]))
