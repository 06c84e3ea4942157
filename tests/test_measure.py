"""measure and marks."""

from random import Random

from tautstrings.desk import answers
from tests.helper import (CallCase, EDGE, HUGE, all_marks, ask, begin, calls_of, drawn_marks, drawn_track, flat, laid,
                          long_track, many_marks, many_tracks, mark, measure, points, run, string, touches_in, track)

# By the greater of the two, by both together, and by the eastward or the northward way alone.
GREATER = [1, 0, -1, 0, 0, 1, 0, -1]
TOGETHER = [1, 1, 1, -1, -1, 1, -1, -1]
OVER = [(mark(0, 0), [0]), (track(-3, -1, 0, 6, 3, -1), [0])]


class Measure(CallCase):
    def test_whole_list(self):
        self.assertEqual(answers([2, 6, 0, 0, 3, 4, 6, 0, 16, 0, 2, 2, 5]), [1, 0, 3, 0, 12, 12])
        self.assertEqual(answers([1, 3, 2, 2, 6, 0, 0, 3, 4, 6, 0, 16, 0, 4, 0, 1, 0, -1]), [1, 0, 1, 0, 3, 0, 8, 4])

    def test_one_rate(self):
        self.check(*OVER, (measure(0, 1, 0), [0, 6, 6]), (measure(0, 0, 1), [0, 0, 0]),
                   (measure(0, 7, 100), [0, 42, 42]), (measure(0, 0, 0), [0, 0, 0]))

    def test_several_rates(self):
        self.check(*OVER, (measure(0, *GREATER), [0, 14, 6]), (measure(0, *TOGETHER), [0, 20, 8]),
                   (measure(0, 0, 1, 0, -1), [0, 14, 2]), (measure(0, 0, 1, 0, 0), [0, 7, 1]),
                   (measure(0, 0, -1, 0, 0), [0, 7, 1]), (measure(0, 1, 0, 1, 0), [0, 6, 6]))

    def test_rates_below_0(self):
        self.check(*OVER, (measure(0, -1, 0), [0, -6, -6]), (measure(0, -5, -2), [0, -30, -30]),
                   (measure(0, -1, -1, -2, 1), [0, 1 + 4, -4 - 2]), (measure(0, -1, -3, -1, -5), [0, 8, -4]))

    def test_there_and_back(self):
        self.check((mark(0, 5), [0]), (track(0, 0, 3, 4, 0, 0), [0]), (measure(0, *GREATER), [0, 8, 0]),
                   (measure(0, 3, 4), [0, 0, 0]), (track(2, 2, 2, 2), [1]), (measure(1, *GREATER), [0, 0, 0]))

    def test_the_string_goes_from_mark_to_mark(self):
        marks = [(0, 0), (4, 0), (0, 4)]
        self.check(*laid(marks), (track(-2, 1, 2, -9, 9, 0, 0, 9, -2, 1), [0]),
                   (string(0), [3, 0, 0, 0, 1, 1, 0, 4, 0, 1, 1, 1, 0, 0, 4, 2, 1, 1, 0]),
                   (measure(0, *GREATER), [0, 10 + 9 + 9 + 8, 2 + 4 + 4 + 3]),
                   (measure(0, *TOGETHER), [0, 14 + 16 + 18 + 10, 3 + 4 + 8 + 5]))

    def test_turns_add_no_length_to_the_string(self):
        ring = [-3, 0, 0, 3, 3, 0, 0, -3]
        self.check((mark(0, 0), [0]), (track(*ring * 5, -3, 0), [0]), (measure(0, *GREATER), [0, 60, 6]),
                   (measure(0, *TOGETHER), [0, 120, 6]))

    def test_among_all_marks(self):
        self.check((mark(0, 0), [0]), (mark(0, 3), [1]), (track(-4, -1, 0, 9, 4, -1), [0]),
                   (measure(0, *TOGETHER), [0, 28, 16]))

    def test_30_rates(self):
        rates = flat([[0, k] for k in range(-15, 15)])
        self.assertEqual(len(rates), 60)
        self.check(*OVER, (measure(0, *rates), [0, 7 * 14 + 7 * 15, 14 + 15]))

    def test_numbers_as_great_as_may_be(self):
        places = [(EDGE, EDGE) if k % 2 else (-EDGE, -EDGE) for k in range(200)]
        all_ways = [1000, 1000, -1000, -1000]
        self.check(*run(0, places), (measure(0, *all_ways), [0, 199 * 4000 * EDGE, 4000 * EDGE]),
                   (measure(0, 1000, 1000), [0, 4000 * EDGE, 4000 * EDGE]),
                   (measure(0, -1000, -1000), [0, -4000 * EDGE, -4000 * EDGE]))
        # Round both marks 49 times: the string goes to and fro between them.
        ring = [(-EDGE, -EDGE), (-EDGE, EDGE), (EDGE, EDGE), (EDGE, -EDGE)]
        out = 2 * EDGE - 1
        between = EDGE - 1
        self.check((mark(0, 0), [0]), (mark(EDGE - 1, EDGE - 1), [1]), *run(0, ring * 49 + ring[:1]),
                   (measure(0, 1000, 0, -1000, 0), [0, 1000 * 196 * EDGE, 1000 * (2 * out + 48 * 2 * between)]),
                   (measure(0, *all_ways), [0, 1000 * 49 * 8 * EDGE, 2000 * (2 * out + 48 * 2 * between)]))

    def test_bad_list(self):
        self.check(*OVER, (measure(0), [-1]), (measure(0, 1), [-1]), (measure(0, 1, 2, 3), [-1]),
                   (measure(0, *[1] * 59), [-1]), (measure(0, 1000, -1000), [0, 6000, 6000]))
        for far in (1001, -1001, EDGE, HUGE, -HUGE):
            self.check(*OVER, (measure(0, far, 0), [-1]), (measure(0, 0, far), [-1]), (measure(0, 1, 1, far, 0), [-1]),
                       (measure(0, 1, 1, 0, far), [-1]))

    def test_no_such_track(self):
        self.check((measure(0, 1, 1), [-2]), *OVER, (measure(1, 1, 1), [-2]), (measure(-1, 1, 1), [-2]),
                   (measure(HUGE, 1, 1), [-2]), (measure(-HUGE, 1, 1), [-2]))

    def test_a_bad_list_comes_first(self):
        self.check((measure(0), [-1]), (measure(0, 1), [-1]), *OVER, (measure(1), [-1]), (measure(1, 1001, 0), [-1]),
                   (measure(-1, 1, 2, 3), [-1]), (measure(HUGE, 0, HUGE), [-1]))

    def test_changes_nothing(self):
        kept = [(points(0), [3, -3, -1, 0, 6, 3, -1]), (points(1), [-2]), (all_marks(), [1, 0, 0]),
                (string(0), [1, 0, 0, 0, -1, 1, 0])]
        self.check(*OVER, *kept, (measure(0, *GREATER), [0, 14, 6]), (measure(0), [-1]), (measure(2, 1, 1), [-2]),
                   *kept, (measure(0, *GREATER), [0, 14, 6]), (track(5, 5, 6, 6), [1]))

    def test_drawn_tracks(self):
        rng = Random(71)
        for turn in range(300):
            marks = drawn_marks(rng, rng.randint(0, 6), 4)
            places = drawn_track(rng, marks, rng.randint(2, 12), 4)
            rates = [rng.randint(-9, 9) for k in range(2 * rng.randint(1, 5))]
            given = ask(*calls_of(laid(marks) + run(0, places)), string(0), measure(0, *rates))[-2:]
            nodes = [places[0], *[touch[:2] for touch in touches_in(given[0])], places[-1]]
            expected = [0]
            for row in (places, nodes):
                expected.append(sum(max((b[0] - a[0]) * rates[k] + (b[1] - a[1]) * rates[k + 1]
                                        for k in range(0, len(rates), 2)) for a, b in zip(row, row[1:])))
            self.assertEqual(given[1], expected)

    def test_200_places(self):
        self.check(*long_track(200), (measure(0, *GREATER), [0, 199, 199]), (measure(0, 3, 0), [0, 597, 597]))


class Marks(CallCase):
    def test_whole_list(self):
        self.assertEqual(answers([17]), [1, 0])
        self.assertEqual(answers([1, 5, -6, 1, -7, 8, 17]), [1, 0, 1, 1, 5, 2, 5, -6, -7, 8])

    def test_in_the_order_of_their_numbers(self):
        self.check((all_marks(), [0]), (mark(9, 9), [0]), (all_marks(), [1, 9, 9]), (mark(-9, 9), [1]),
                   (mark(0, EDGE), [2]), (all_marks(), [3, 9, 9, -9, 9, 0, EDGE]))

    def test_refused_marks_are_none(self):
        self.check((mark(1, 1), [0]), (mark(1, 1), [-2]), (mark(EDGE + 1, 0), [-1]), (all_marks(), [1, 1, 1]),
                   (track(5, 5, 6, 6), [0]), (mark(2, 2), [-4]), (all_marks(), [1, 1, 1]))

    def test_16(self):
        told = [16, *flat([[-900000 + k, -900000] for k in range(16)])]
        self.check(*many_marks(16), (all_marks(), told), (mark(0, 0), [-3]), (all_marks(), told), *many_tracks(8),
                   (all_marks(), told))

    def test_begin_takes_them_away(self):
        self.check((mark(1, 1), [0]), (begin(), [0]), (all_marks(), [0]), (mark(2, 2), [0]), (all_marks(), [1, 2, 2]))

    def test_changes_nothing(self):
        self.check((mark(1, 1), [0]), (all_marks(), [1, 1, 1]), (all_marks(), [1, 1, 1]), (mark(2, 2), [1]),
                   (track(0, 0, 0, 1), [0]), (all_marks(), [2, 1, 1, 2, 2]), (points(0), [2, 0, 0, 0, 1]))
