"""sails: strings held against courses."""

from random import Random

from tautstrings.desk import answers
from tests.helper import (CallCase, HUGE, all_marks, ask, calls_of, drawn_marks, drawn_track, laid, many_marks,
                          many_tracks, mark, points, run, sails, string, touches_in, track)

# The document's example: above the first mark, below the second.
EXAMPLE = [(mark(0, 0), [0]), (mark(4, 0), [1]), (track(-2, -1, 0, 2, 2, -1, 4, -2, 6, 1), [0])]

# A row of marks which the track passes to starboard, to port, and so on: (0, 0), (4, 0), (8, 0), (12, 0).
SLALOM = [*laid([(0, 0), (4, 0), (8, 0), (12, 0)]),
          (track(-2, 0, 0, 1, 2, 0, 4, -1, 6, 0, 8, 1, 10, 0, 12, -1, 14, 0), [0])]


class Sails(CallCase):
    def test_whole_list(self):
        self.assertEqual(answers([1, 0, 0, 1, 4, 0, 2, 10, -2, -1, 0, 2, 2, -1, 4, -2, 6, 1, 11, 0, 4, -1, 0, 1, -1]),
                         [1, 0, 1, 1, 1, 0, 4, 1, 2, 0, 1])
        self.assertEqual(answers([1, 0, 0, 2, 4, 1, 1, 2, 2, 11, 0, 2, 0, -1]), [1, 0, 1, 0, 2, 0, 0])

    def test_the_empty_course(self):
        self.check(*EXAMPLE, (sails(0), [1, 0]))
        self.check((track(0, 0, 1, 1), [0]), (sails(0), [1, 0]))

    def test_one_after_the_other(self):
        self.check(*EXAMPLE, (sails(0, -1, 0), [1, 1, 0]), (sails(0, 1, -1), [1, 1, 0]),
                   (sails(0, -1, 0, 1, -1), [1, 2, 0, 1]))
        self.check(*SLALOM, (sails(0, -1, 0, 1, -1, -1, 2, 3, -1), [1, 4, 0, 1, 2, 3]))

    def test_the_wrong_side(self):
        self.check(*EXAMPLE, (sails(0, 0, -1), [0, 0]), (sails(0, -1, 1), [0, 0]), (sails(0, 0, -1, 1, -1), [0, 0]),
                   (sails(0, -1, 0, -1, 1), [0, 1, 0]))

    def test_the_wrong_order(self):
        self.check(*EXAMPLE, (sails(0, 1, -1, -1, 0), [0, 1, 1]))

    def test_gates(self):
        self.check(*EXAMPLE, (sails(0, 1, 0), [1, 1, 0]), (sails(0, 0, 1), [0, 0]),
                   (sails(0, 1, 0, 1, 0), [1, 2, 0, 1]), (sails(0, 0, 0), [1, 1, 0]),
                   (sails(0, 1, 1), [1, 1, 0]), (sails(0, 0, 0, 1, 1), [1, 2, 0, 1]),
                   (sails(0, 1, 0, 1, 0, 1, 0), [0, 2, 0, 1]))
        self.check(*SLALOM, (sails(0, 1, 2, 3, 2), [1, 2, 0, 1]), (sails(0, 3, 0, 3, 0), [1, 2, 0, 1]),
                   (sails(0, 0, 3), [0, 0]), (sails(0, 2, 3, 0, 1), [0, 0]))

    def test_touches_that_no_part_meets_are_passed_over(self):
        # The mark's wrong side stands in the course too, so that the mark holds the string.
        self.check(*SLALOM, (sails(0, 1, -1, 3, 2), [1, 2, 0, 1]), (sails(0, 3, -1, 0, 1), [0, 1, 2]),
                   (sails(0, 1, -1, 3, -1, -1, 0), [0, 2, 1, 2]), (sails(0, 3, -1, 0, 1, 2, 2), [0, 1, 3]))

    def test_behind_a_part_that_is_not_met_none_is_taken(self):
        self.check(*SLALOM, (sails(0, -1, 0, 2, -1, 3, -1), [0, 1, 0]), (sails(0, 0, -1, 1, -1, -1, 2), [0, 0]),
                   (sails(0, -1, 0, 1, -1, 2, -1, 3, -1), [0, 2, 0, 1]))

    def test_a_mark_named_twice(self):
        # Above the first, round the second, and back below the first: rightwards all the way.
        places = [-3, 0, 0, 3, 4, 3, 7, 0, 4, -3, 0, -3, -3, 0]
        self.check((mark(0, 0), [0]), (mark(4, 0), [1]), (track(*places), [0]),
                   (string(0), [3, 0, 0, 0, -1, 1, 1, 4, 0, 1, -1, 2, 1, 0, 0, 0, -1, 1, 1]),
                   (sails(0, -1, 0, -1, 1, -1, 0), [1, 3, 0, 1, 2]), (sails(0, -1, 0, -1, 0), [0, 1, 0]),
                   (sails(0, -1, 0, -1, 0, -1, 1), [0, 2, 0, 2]), (sails(0, -1, 1, -1, 0), [1, 2, 1, 2]),
                   (sails(0, -1, 0, -1, 1, -1, 0, -1, 0), [0, 3, 0, 1, 2]))

    def test_several_turns_are_one_touch(self):
        ring = [-3, 0, 0, 3, 3, 0, 0, -3]
        self.check((mark(0, 0), [0]), (track(*ring * 3, -3, 0), [0]), (sails(0, -1, 0), [1, 1, 0]),
                   (sails(0, -1, 0, -1, 0), [0, 1, 0]))

    def test_a_touch_that_other_marks_keep_off(self):
        self.check((mark(0, 0), [0]), (mark(0, 2), [1]), (track(-3, -1, 0, 5, 3, -1), [0]),
                   (string(0), [1, 0, 2, 1, -1, 1, 0]), (sails(0, -1, 0), [1, 1, 0]), (sails(0, -1, 1), [1, 1, 0]),
                   (sails(0, -1, 0, -1, 1), [0, 0]), (sails(0, -1, 1, -1, 0), [0, 1, 0]), (sails(0, 0, 1), [1, 1, 0]))

    def test_a_touch_that_only_the_named_marks_let_come_about(self):
        # Among all three the outer marks draw the cord aside, and the middle one is passed without a touch.
        marks = [(0, 0), (-2, 2), (2, 2)]
        self.check(*laid(marks), (track(-4, -1, -2, 5, 2, 5, 4, -1), [0]),
                   (string(0), [2, -2, 2, 1, -1, 1, 0, 2, 2, 2, -1, 1, 0]),
                   (sails(0, -1, 0), [1, 1, 0]), (sails(0, -1, 1, -1, 0), [0, 1, 0]),
                   (sails(0, -1, 1, -1, 2), [1, 2, 0, 1]), (sails(0, 0, 1, -1, 2), [1, 2, 0, 1]))

    def test_marks_that_the_course_does_not_name_are_left_out(self):
        self.check(*SLALOM, (sails(0, 3, -1), [1, 1, 0]), (sails(0, -1, 2), [1, 1, 0]),
                   (sails(0, 1, -1, 3, -1), [1, 2, 0, 1]), (sails(0, -1, 0, 3, -1), [1, 2, 0, 1]),
                   (sails(0, -1, 0, 0, -1, 3, -1), [0, 1, 0]))
        # A touch that comes about only by a mark that is left out goes with it.
        self.check((mark(0, 0), [0]), (mark(4, 3), [1]), (track(-4, -1, 2, -1, 4, 6, 8, -1), [0]),
                   (string(0), [2, 0, 0, 0, 1, 1, 0, 4, 3, 1, -1, 1, 0]), (sails(0, 0, -1), [0, 0]),
                   (sails(0, -1, 1), [1, 1, 0]), (sails(0, 0, -1, -1, 1), [1, 2, 0, 1]))

    def test_30_parts(self):
        self.check(*EXAMPLE, (sails(0, *[-1, 0] * 30), [0, 1, 0]), (sails(0, *[1, 0] * 30), [0, 2, 0, 1]))
        east = [-3, 0, 0, 3, 4, 3, 7, 0, 4, -3, 0, -3]
        course = [-1, 0] + [-1, 1, -1, 0] * 4
        self.check((mark(0, 0), [0]), (mark(4, 0), [1]), (track(*east * 4, -3, 0), [0]),
                   (sails(0, *course), [1, 9, *range(9)]), (sails(0, *course, *course), [0, 9, *range(9)]))

    def test_16_marks(self):
        marks = [(4 * k, 0) for k in range(16)]
        places = [(-2, 0)]
        course = []
        for k in range(16):
            places += [(4 * k, 1 if k % 2 else -1), (4 * k + 2, 0)]
            course += [-1, k] if k % 2 else [k, -1]
        self.check(*laid(marks), *run(0, places), (sails(0, *course), [1, 16, *range(16)]),
                   (sails(0, *course[:30]), [1, 15, *range(15)]), (sails(0, *course, 0, -1), [0, 16, *range(16)]))


class Refused(CallCase):
    def test_odd_length(self):
        self.check(*EXAMPLE, (sails(0, 0), [-1]), (sails(0, -1, 0, 1), [-1]), (sails(0, *[0] * 59), [-1]))

    def test_no_such_mark(self):
        for number in (2, -2, 15, 16, HUGE, -HUGE):
            self.check(*EXAMPLE, (sails(0, number, -1), [-1]), (sails(0, -1, number), [-1]),
                       (sails(0, number, 0), [-1]), (sails(0, 0, number), [-1]), (sails(0, 0, 1, number, 1), [-1]),
                       (sails(0, 0, 1, 1, number), [-1]))
        self.check(*many_marks(16), (track(0, 0, 1, 1), [0]), (sails(0, 15, -1), [0, 0]), (sails(0, 16, -1), [-1]))
        self.check((track(0, 0, 1, 1), [0]), (sails(0, 0, -1), [-1]), (sails(0, -1, 0), [-1]))

    def test_a_part_that_names_none(self):
        self.check(*EXAMPLE, (sails(0, -1, -1), [-1]), (sails(0, 0, 1, -1, -1), [-1]), (sails(0, -1, -1, 0, 1), [-1]))

    def test_no_such_track(self):
        self.check((sails(0), [-2]), *EXAMPLE, (sails(1, 0, -1), [-2]), (sails(-1), [-2]), (sails(HUGE, 0, 0), [-2]),
                   (sails(-HUGE, 0, 0), [-2]), (sails(0), [1, 0]))

    def test_a_bad_course_comes_first(self):
        self.check((sails(0, -1), [-1]), (sails(0, 0, 0), [-1]), *EXAMPLE, (sails(1, 0), [-1]), (sails(-1, 2, 0), [-1]),
                   (sails(1, -1, -1), [-1]), (sails(HUGE, 0, -2), [-1]))

    def test_changes_nothing(self):
        kept = [(points(0), [5, -2, -1, 0, 2, 2, -1, 4, -2, 6, 1]), (points(1), [-2]), (all_marks(), [2, 0, 0, 4, 0]),
                (string(0), [2, 0, 0, 0, -1, 1, 0, 4, 0, 1, 1, 1, 0])]
        self.check(*EXAMPLE, *kept, (sails(0, 1, -1), [1, 1, 0]), *kept, (sails(0, 1), [-1]), (sails(4, 1, 1), [-2]),
                   (sails(0), [1, 0]), *kept, (track(5, 5, 6, 6), [1]))

    def test_8_tracks_are_no_matter(self):
        self.check((mark(0, 0), [0]), *many_tracks(8), (sails(7, 0, -1), [0, 0]), (sails(8, 0, -1), [-2]))


def sailed_slowly(touches, course):
    """The document's words once more: each part looks for its touch behind the one that was taken last."""
    taken = []
    for port, starboard in course:
        least = taken[-1] + 1 if taken else 0
        good = [k for k in range(least, len(touches)) if (touches[k][2], touches[k][3]) in ((port, 1), (starboard, -1))]
        if not good:
            break
        taken.append(good[0])
    return [int(len(taken) == len(course)), len(taken), *taken]


def drawn_course(rng):
    course = []
    for k in range(rng.choice([1, 1, 2, 3, 4])):
        pair = [rng.randint(0, 5), rng.choice([-1, -1, rng.randint(0, 5)])]
        course.append(tuple(rng.sample(pair, 2)))
    return course


class Drawn(CallCase):
    def test_the_string_among_the_named_marks_alone(self):
        rng = Random(61)
        count = {0: 0, 1: 0}
        for turn in range(600):
            marks = drawn_marks(rng, 6, 2)
            places = drawn_track(rng, marks, rng.choice([6, 20, 60]), 2)
            course = drawn_course(rng)
            named = sorted({number for pair in course for number in pair} - {-1})
            given = ask(*calls_of(laid(marks) + run(0, places)), sails(0, *[n for pair in course for n in pair]))[-1]
            # Told among the named marks laid by themselves, and then by the numbers they have among all.
            alone = ask(*calls_of(laid([marks[n] for n in named]) + run(0, places)), string(0))[-1]
            touches = [(x, y, named[m], side) for x, y, m, side, halves, just in touches_in(alone)]
            self.assertEqual(given, sailed_slowly(touches, course), (marks, places, course))
            count[given[0]] += 1
        self.assertGreater(min(count.values()), 50)
