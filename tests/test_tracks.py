"""track and points."""

from tautstrings.desk import answers
from tests.helper import CallCase, EDGE, HUGE, ask, flat, many_tracks, mark, more, points, put, touch, track


class Track(CallCase):
    def test_numbers_from_0(self):
        self.assertEqual(answers([2, 4, 0, 0, 3, 4, 2, 6, 1, 1, 2, 2, -3, 5, 6, 0, 6, 1]),
                         [1, 0, 1, 1, 5, 2, 0, 0, 3, 4, 7, 3, 1, 1, 2, 2, -3, 5])

    def test_same_places(self):
        self.check((track(7, 7, 7, 7), [0]), (track(7, 7, 7, 7), [1]), (track(1, 2, 1, 2, 3, 4, 3, 4), [2]),
                   (points(0), [2, 7, 7, 7, 7]), (points(2), [4, 1, 2, 1, 2, 3, 4, 3, 4]))

    def test_longest_list(self):
        numbers = list(range(60))
        self.check((track(*numbers), [0]), (points(0), [30, *numbers]))

    def test_edges_of_the_range(self):
        self.check((track(-EDGE, EDGE, EDGE, -EDGE), [0]), (points(0), [2, -EDGE, EDGE, EDGE, -EDGE]))

    def test_fewer_than_2_places(self):
        self.check((track(), [-1]), (track(1, 1), [-1]), (track(1, 1, 2, 2), [0]))

    def test_odd_length(self):
        self.check((track(1), [-1]), (track(1, 1, 2), [-1]), (track(1, 1, 2, 2, 3), [-1]),
                   (track(*range(59)), [-1]), (points(0), [-2]))

    def test_out_of_range(self):
        for far in (EDGE + 1, HUGE, -EDGE - 1, -HUGE):
            for at in range(6):
                numbers = [1, 2, 3, 4, 5, 6]
                numbers[at] = far
                self.check((track(*numbers), [-1]), (points(0), [-2]))

    def test_8_and_one_more(self):
        self.check(*many_tracks(7), (track(0, 0, 1, 1), [7]), (track(0, 0, 2, 2), [-3]), (points(8), [-2]),
                   (points(7), [2, 0, 0, 1, 1]))

    def test_a_mark_on_a_piece(self):
        self.check((mark(0, 0), [0]), (mark(6, 3), [1]), (track(-1, 0, 1, 0), [-5]), (track(0, 0, 1, 1), [-5]),
                   (track(5, 5, 0, 0), [-5]), (track(9, 9, 4, 2, 8, 4), [-5]), (track(0, 0, 0, 0), [-5]),
                   (track(1, 0, 2, 0), [0]), (points(0), [2, 1, 0, 2, 0]), (points(1), [-2]))

    def test_the_way_back_to_the_first_place_is_no_piece(self):
        self.check((mark(0, 0), [0]), (track(-1, 0, 0, 5, 1, 0), [0]))

    def test_bad_list_comes_first(self):
        self.check((mark(0, 0), [0]), (track(-1, 0, 1, 0, 2), [-1]), (track(-1, 0, 1, 0, 2, EDGE + 1), [-1]),
                   (track(0, 0), [-1]), (track(0, 0, 0), [-1]))
        self.check(*many_tracks(8), (track(), [-1]), (track(1, 1), [-1]), (track(1, 1, 2), [-1]),
                   (track(1, 1, 2, HUGE), [-1]))

    def test_8_tracks_come_before_a_mark(self):
        self.check((mark(0, 0), [0]), *many_tracks(8), (track(-1, 0, 1, 0), [-3]), (track(0, 0, 0, 0), [-3]))

    def test_refused_changes_nothing(self):
        self.check((mark(0, 0), [0]), (track(1, 1, 2, 2), [0]), (track(-1, 0, 1, 0), [-5]), (track(1), [-1]),
                   (points(1), [-2]), (track(3, 3, 4, 4), [1]), (points(0), [2, 1, 1, 2, 2]),
                   (points(1), [2, 3, 3, 4, 4]))


class Points(CallCase):
    def test_each_track_has_its_own(self):
        self.check((track(0, 0, 1, 1), [0]), (track(0, 0, 1, 1), [1]), (more(1, 5, -5), [3]), (put(0, 0, 9, 8), [3]),
                   (points(0), [3, 0, 0, 9, 8, 1, 1]), (points(1), [3, 0, 0, 1, 1, 5, -5]))

    def test_no_such_track(self):
        self.check((points(0), [-2]), (track(0, 0, 1, 1), [0]), (points(1), [-2]), (points(-1), [-2]),
                   (points(HUGE), [-2]), (points(-HUGE), [-2]), (points(0), [2, 0, 0, 1, 1]))

    def test_changes_nothing(self):
        once = ask(track(1, 2, 3, 4), points(0), points(0), points(-1), points(0))
        self.assertEqual(once, [[0], [2, 1, 2, 3, 4], [2, 1, 2, 3, 4], [-2], [2, 1, 2, 3, 4]])


class Line(CallCase):
    def test_what_is_handed_in_stays(self):
        calls = flat([mark(0, 0), mark(0, 0), track(-1, 1, 1, 1), touch(-1, 0, 1, 0), more(0, 2, 2), more(0, 1),
                      put(0, 0, 0, 3), put(0, 7, 0, 3), points(0), [7, 0], [8, 0], [0], points(0)])
        before = list(calls)
        first = answers(calls)
        self.assertEqual(calls, before)
        kept = list(first)
        self.assertEqual(answers(calls), kept)
        self.assertEqual(first, kept)
        self.assertEqual(answers(list(before)), kept)
        self.assertEqual(calls, before)

    def test_nothing_is_kept_from_one_time_to_the_next(self):
        answers(flat([mark(0, 0), track(1, 1, 2, 2)]))
        self.assertEqual(ask(touch(-1, 0, 1, 0), points(0), mark(0, 0)), [[0], [-2], [0]])
        self.assertEqual(ask(mark(0, 0)), [[0]])

    def test_what_is_given_back_is_new(self):
        calls = flat([track(1, 2, 3, 4), points(0)])
        first = answers(calls)
        first.append(99)
        self.assertEqual(answers(calls), [1, 0, 5, 2, 1, 2, 3, 4])
        self.assertEqual({int}, {type(number) for number in first})

    def test_a_hundred_calls(self):
        calls = [track(*range(60))] + [points(0)] * 99
        self.assertEqual(ask(*calls), [[0]] + [[30, *range(60)]] * 99)
