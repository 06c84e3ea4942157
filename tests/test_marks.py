"""begin and mark."""

from tautstrings.desk import answers
from tests.helper import (CallCase, EDGE, HUGE, begin, many_marks, many_tracks, mark, more, points, put, reduced,
                          touch, track, word)


class Begin(CallCase):
    def test_alone(self):
        self.assertEqual(answers([0]), [1, 0])

    def test_again_and_again(self):
        self.assertEqual(answers([0, 0, 0]), [1, 0, 1, 0, 1, 0])

    def test_leaves_no_marks(self):
        self.check((mark(0, 0), [0]), (mark(4, 0), [1]), (begin(), [0]),
                   (touch(-1, 0, 5, 0), [0]), (mark(4, 0), [0]), (touch(-1, 0, 5, 0), [1, 0, 0]))

    def test_leaves_no_tracks(self):
        self.check((track(0, 0, 1, 1), [0]), (track(0, 0, 2, 2), [1]), (begin(), [0]),
                   (points(0), [-2]), (word(0), [-2]), (reduced(0), [-2]), (more(0, 1, 1), [-2]),
                   (put(0, 0, 1, 1), [-2]), (mark(9, 9), [0]), (track(3, 4, 5, 6), [0]), (points(0), [2, 3, 4, 5, 6]))

    def test_marks_and_tracks_may_be_full_again(self):
        steps = many_marks(16) + many_tracks(8)
        self.check(*steps, (begin(), [0]), *steps, (mark(5, 5), [-3]), (track(0, 0, 1, 0), [-3]))


class Mark(CallCase):
    def test_numbers_from_0(self):
        self.assertEqual(answers([1, 0, 0, 1, 4, 0, 1, 0, 4]), [1, 0, 1, 1, 1, 2])

    def test_edges_of_the_range(self):
        self.check((mark(-EDGE, -EDGE), [0]), (mark(EDGE, EDGE), [1]), (mark(-EDGE, EDGE), [2]),
                   (mark(EDGE, -EDGE), [3]), (touch(EDGE, EDGE, EDGE, EDGE), [1, 0, 1]))

    def test_out_of_range(self):
        for far in (EDGE + 1, HUGE, -EDGE - 1, -HUGE):
            self.check((mark(far, 0), [-1]), (mark(0, far), [-1]), (mark(far, far), [-1]), (mark(0, 0), [0]))

    def test_a_mark_is_there(self):
        self.check((mark(3, -7), [0]), (mark(3, -7), [-2]), (mark(-7, 3), [1]), (mark(3, 7), [2]),
                   (mark(-3, -7), [3]), (mark(-7, 3), [-2]))

    def test_16_and_one_more(self):
        self.check(*many_marks(15), (mark(0, 0), [15]), (mark(1, 0), [-3]), (mark(2, 0), [-3]))

    def test_there_is_a_track(self):
        self.check((mark(0, 0), [0]), (track(1, 1, 2, 2), [0]), (mark(5, 5), [-4]), (mark(6, 6), [-4]))

    def test_a_refused_track_is_none(self):
        self.check((mark(0, 0), [0]), (track(-1, 0, 1, 0), [-5]), (track(1, 1), [-1]), (mark(5, 5), [1]))

    def test_out_of_range_comes_first(self):
        self.check(*many_marks(16), (mark(EDGE + 1, 0), [-1]), (track(0, 0, 1, 1), [0]), (mark(0, -EDGE - 1), [-1]))
        self.check((track(0, 0, 1, 1), [0]), (mark(HUGE, 0), [-1]))

    def test_a_mark_there_comes_before_the_rest(self):
        self.check(*many_marks(16), (mark(-900000, -900000), [-2]), (track(0, 0, 1, 1), [0]),
                   (mark(-899985, -900000), [-2]))
        self.check((mark(7, 7), [0]), (track(0, 0, 1, 1), [0]), (mark(7, 7), [-2]))

    def test_16_marks_come_before_a_track(self):
        self.check(*many_marks(16), (track(0, 0, 1, 1), [0]), (mark(7, 7), [-3]))

    def test_refused_changes_nothing(self):
        self.check((mark(0, 0), [0]), (mark(0, 0), [-2]), (mark(EDGE + 1, 0), [-1]), (mark(1, 0), [1]),
                   (track(0, 5, 9, 5), [0]), (mark(5, 5), [-4]), (touch(5, 5, 5, 5), [0]), (word(0), [2, -1, -2]))
        self.check(*many_marks(16), (mark(5, 5), [-3]), (touch(5, 5, 5, 5), [0]))
