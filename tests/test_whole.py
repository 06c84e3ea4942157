"""What the document says over the whole program: promise 3, and what is said of the list of calls."""

from random import Random

from tautstrings.desk import answers
from tests.helper import (CallCase, EDGE, HUGE, alike, all_marks, ask, begin, flat, join, mark, measure, more, part,
                          points, put, reduced, reverse, run, sails, string, touch, track, wind, word)

STATE = [mark(0, 0), mark(4, 0), mark(4, 6), track(-2, -1, 0, 2, 2, -1, 4, -2, 6, 1),
         track(2, 2, 7, 2, 7, -3, 2, -3, 2, 2), track(6, 1, 9, 9, -2, -1)]
FULL_STATE = STATE + [track(20, k, 30, k) for k in range(5)]
SEEN = [all_marks(), *[points(t) for t in range(9)], *[string(t) for t in range(9)], *[reduced(t) for t in range(9)]]

ASKING = [touch(-1, 0, 1, 0), touch(7, 7, 8, 8), points(0), word(0), reduced(1), string(0), string(1), alike(0, 0),
          alike(1, 1), sails(0), sails(0, -1, 0, 1, -1), sails(1, 2, 2), wind(1, 0), wind(1, 1), measure(0, 1, 1),
          measure(1, 1, 0, -1, 0), all_marks()]

REFUSED = [mark(EDGE + 1, 0), mark(4, 0), mark(9, 9), track(1, 1), track(-1, 0, 1, 0), track(), touch(1), more(0),
           more(0, 1), more(9, 1, 1), more(2, -2, 0, 9, 0), put(0, 0, HUGE, 0), put(9, 0, 1, 1), put(0, 4, 1, 1),
           put(0, 0, 0, 0), points(9), word(-1), reduced(HUGE), string(9), string(-1), alike(0, 9), alike(0, 1),
           sails(0, 1), sails(0, 3, 0), sails(0, -1, -1), sails(9), wind(1, 3), wind(9, 0), wind(0, 0), reverse(9),
           join(0, 9), join(0, 0), part(9, 0, 1), part(0, 1, 1), part(0, 0, 5), measure(0), measure(0, 1001, 0),
           measure(9, 1, 1)]

REFUSED_WHEN_FULL = [mark(9, 9), track(1, 1, 2, 2), reverse(0), join(0, 2), part(0, 0, 1)]


class Promise3(CallCase):
    def leaves_all(self, state, call):
        before = ask(*state, *SEEN)
        behind = ask(*state, call, *SEEN)
        self.assertEqual(behind[:len(state)] + behind[len(state) + 1:], before, call)
        self.assertEqual(len(behind), len(before) + 1)
        return behind[len(state)]

    def test_calls_that_ask_change_nothing(self):
        for call in ASKING:
            answer = self.leaves_all(STATE, call)
            self.assertGreaterEqual(answer[0], 0, call)
            self.assertEqual(self.leaves_all(STATE + [call], call), answer)

    def test_refused_calls_change_nothing(self):
        for call in REFUSED:
            answer = self.leaves_all(STATE, call)
            self.assertEqual(len(answer), 1, call)
            self.assertLess(answer[0], 0, call)

    def test_refused_calls_change_nothing_when_all_is_full(self):
        for call in REFUSED_WHEN_FULL:
            self.assertIn(self.leaves_all(FULL_STATE, call), ([-3], [-4]))

    def test_200_places_and_one_more(self):
        state = [call for call, answer in run(0, [(k, 700) for k in range(200)])] + [track(199, 700, 0, 700)]
        for call in (more(0, 1, 1), put(0, 0, 1, 1), join(0, 1), join(1, 0)):
            self.assertEqual(self.leaves_all(state, call), [-3])

    def test_drawn_calls(self):
        rng = Random(81)
        shown = [all_marks(), *[points(t) for t in range(8)]]
        seen = {}
        for turn in range(600):
            calls = [mark(0, 0), mark(2, 1), track(-1, 1, 1, 1, 3, -1), track(3, -1, 3, 3, 3, -1)]
            calls += [drawn_call(rng) for k in range(6)]
            given = ask(*flat([[call, *shown] for call in calls]))
            size = 1 + len(shown)
            for k in range(1, len(calls)):
                answer = given[size * k]
                refused = answer[0] < 0
                seen[(calls[k][0], refused)] = True
                if refused:
                    self.assertEqual(len(answer), 1)
                if refused or calls[k][0] in (3, 6, 7, 8, 9, 10, 11, 12, 16, 17):
                    self.assertEqual(given[size * k + 1:size * (k + 1)], given[size * (k - 1) + 1:size * k], calls[k])
        # Every call was answered at least once, and every one that can be refused was.
        self.assertEqual([number for number in range(18) if (number, False) not in seen], [])
        self.assertEqual([number for number in range(18) if (number, True) not in seen], [0, 17])


def drawn_call(rng):
    """A call of any sort; what it tells is sometimes wrong."""
    def t():
        return rng.choice([0, 0, 1, 1, 2, 3, 7, -1])

    def number():
        return rng.choice([-1, 0, 1, 2, 3, 4, rng.choice([EDGE, EDGE + 1, HUGE, -HUGE])])

    def numbers(*least):
        return [number() for k in range(rng.choice(least))]
    draw = [begin, lambda: mark(number(), number()), lambda: track(*numbers(4, 4, 6, 3)),
            lambda: touch(*numbers(4, 4, 6, 3)), lambda: more(t(), *numbers(2, 4, 1)),
            lambda: put(t(), number(), number(), number()), lambda: points(t()), lambda: word(t()),
            lambda: reduced(t()), lambda: string(t()), lambda: alike(t(), t()),
            lambda: sails(t(), *numbers(0, 2, 4, 1)), lambda: wind(t(), number()), lambda: reverse(t()),
            lambda: join(t(), t()),
            lambda: part(t(), number(), number()), lambda: measure(t(), *numbers(0, 2, 4, 1)), all_marks]
    return rng.choice(draw)()


class Line(CallCase):
    CALLS = flat(STATE + ASKING + REFUSED + [reverse(0), join(0, 2), part(0, 1, 3), more(0, 5, 5), put(1, 0, 9, 9)] +
                 SEEN + [begin(), all_marks()])

    def test_what_is_handed_in_stays(self):
        calls = list(self.CALLS)
        answers(calls)
        self.assertEqual(calls, self.CALLS)

    def test_a_second_time_the_answers_are_the_same(self):
        calls = list(self.CALLS)
        first = answers(calls)
        kept = list(first)
        self.assertEqual(answers(calls), kept)
        self.assertEqual(answers(list(self.CALLS)), kept)
        self.assertEqual(first, kept)

    def test_whole_numbers_alone_are_given_back(self):
        given = answers(list(self.CALLS))
        self.assertIs(type(given), list)
        self.assertEqual({type(number) for number in given}, {int})

    def test_nothing_is_kept_from_one_time_to_the_next(self):
        answers(list(self.CALLS))
        self.assertEqual(ask(all_marks(), string(0), reverse(0), join(0, 0), part(0, 0, 1), sails(0), wind(0, 0),
                             measure(0, 1, 1), alike(0, 0)),
                         [[0], [-2], [-2], [-2], [-2], [-2], [-1], [-2], [-2]])

    def test_a_hundred_calls(self):
        calls = STATE + [string(0), sails(0, -1, 0, 1, -1), measure(0, 1, 0), all_marks()] * 23 + [wind(1, 1), begin()]
        self.assertEqual(len(calls), 100)
        four = [[2, 0, 0, 0, -1, 1, 0, 4, 0, 1, 1, 1, 0], [1, 2, 0, 1], [0, 8, 8], [3, 0, 0, 4, 0, 4, 6]]
        self.assertEqual(ask(*calls), [[0], [1], [2], [0], [1], [2]] + four * 23 + [[0, -1], [0]])

    def test_a_hundred_strings_of_long_tracks(self):
        marks = [mark(2 * k, 0) for k in range(16)]
        ring = [(-3, 0), (15, 20), (33, 0), (15, -20)]
        tracks = [call for call, answer in run(0, ring * 50)]
        calls = marks + tracks + [string(0)] * (100 - len(marks) - len(tracks))
        given = ask(*calls)
        self.assertEqual(len(given), 100)
        told = given[-1]
        self.assertGreater(told[0], 49 * 30)
        for answer in given[len(marks) + len(tracks):]:
            self.assertEqual(answer, told)

    def test_calls_in_any_order(self):
        self.check((all_marks(), [0]), (measure(0, 1, 1), [-2]), (part(0, 0, 1), [-2]), (join(0, 0), [-2]),
                   (reverse(0), [-2]), (wind(0, 0), [-1]), (sails(0), [-2]), (alike(0, 0), [-2]), (string(0), [-2]),
                   (reduced(0), [-2]), (word(0), [-2]), (points(0), [-2]), (put(0, 0, 0, 0), [-2]),
                   (more(0, 1, 1), [-2]), (touch(0, 0, 1, 1), [0]), (track(0, 0, 1, 1), [0]),
                   (mark(5, 5), [-4]), (begin(), [0]))
