"""word and reduced."""

from itertools import product
from random import Random

from tautstrings.desk import answers
from tests.helper import (CallCase, EDGE, HUGE, ask, in_triangle, leaning_word, mark, more, plain_word, points, put,
                          reduced, reduced_plainly, slowly_reduced, track, word)


class Word(CallCase):
    def spells(self, marks, places, letters):
        steps = [(mark(*place), [k]) for k, place in enumerate(marks)]
        numbers = [n for place in places for n in place]
        self.check(*steps, (track(*numbers), [0]), (word(0), [len(letters), *letters]))

    def test_whole_list(self):
        self.assertEqual(answers([1, 0, 0, 2, 6, -1, 1, 1, 1, -1, 2, 7, 0]), [1, 0, 1, 0, 3, 2, -1, 1])

    def test_the_example(self):
        self.check((mark(0, 0), [0]), (mark(4, 0), [1]), (track(-2, -1, 0, 2, 2, -1, 4, -2, 6, 1), [0]),
                   (word(0), [1, -1]), (reduced(0), [1, -1]))

    def test_no_letters(self):
        self.check((track(0, 0, 5, 5), [0]), (word(0), [0]), (reduced(0), [0]))
        self.spells([(0, 0)], [(-5, -1), (5, -1), (-5, -1)], [])
        self.spells([(0, 0)], [(1, 9), (5, 9), (5, -9), (-5, -9), (-5, 9), (-1, 9)], [])
        self.spells([(0, 0)], [(-4, 4), (-4, 4)], [])

    def test_east_and_west(self):
        self.spells([(0, 0)], [(-1, 1), (1, 1)], [-1])
        self.spells([(0, 0)], [(1, 1), (-1, 1)], [1])
        self.spells([(9, 0), (0, 0)], [(1, 1), (-1, 1)], [2])

    def test_slanting_pieces_above_and_below(self):
        self.spells([(0, 0)], [(-1, -2), (2, 5)], [-1])
        self.spells([(0, 0)], [(2, 5), (-1, -2)], [1])
        self.spells([(0, 0)], [(-2, -5), (1, 2)], [])
        self.spells([(0, 0)], [(1, 2), (-2, -5)], [])
        self.spells([(0, 0)], [(-2, 5), (1, -2)], [-1])
        self.spells([(0, 0)], [(-1, 2), (2, -5)], [])

    def test_a_hair_above_and_below_far_out(self):
        self.spells([(0, 0)], [(-EDGE, -EDGE), (EDGE - 1, EDGE)], [-1])
        self.spells([(0, 0)], [(-EDGE, -EDGE), (EDGE, EDGE - 1)], [])
        self.spells([(0, 0)], [(EDGE - 1, EDGE), (-EDGE, -EDGE)], [1])
        self.spells([(0, 0)], [(EDGE, EDGE - 1), (-EDGE, -EDGE)], [])

    def test_straight_up_and_down(self):
        self.spells([(0, 0)], [(0, 1), (0, 9)], [])
        self.spells([(0, 0)], [(0, 9), (0, 1)], [])
        self.spells([(0, 0)], [(1, -9), (1, 9)], [])
        self.spells([(0, 0)], [(-1, 9), (-1, -9)], [])

    def test_a_place_straight_above_is_west(self):
        self.spells([(0, 0)], [(-1, 1), (0, 1)], [])
        self.spells([(0, 0)], [(0, 1), (-1, 1)], [])
        self.spells([(0, 0)], [(0, 1), (1, 1)], [-1])
        self.spells([(0, 0)], [(1, 1), (0, 1)], [1])
        self.spells([(0, 0)], [(-1, 1), (0, 1), (1, 1)], [-1])
        self.spells([(0, 0)], [(1, 1), (0, 5), (0, 2), (-1, 1)], [1])
        self.spells([(0, 0)], [(1, 1), (0, 1), (1, 1)], [1, -1])
        self.spells([(0, 0)], [(-1, 1), (0, 1), (-1, 1)], [])

    def test_a_place_straight_below_crosses_nothing(self):
        self.spells([(0, 0)], [(0, -1), (1, -1), (0, -1), (-1, -1), (0, -1)], [])
        self.spells([(0, 0)], [(0, -1), (1, 9)], [])
        self.spells([(0, 0)], [(1, 9), (0, -1)], [])

    def test_marks_with_one_x(self):
        self.spells([(0, 0), (0, 4)], [(-1, 9), (1, 9)], [-2, -1])
        self.spells([(0, 4), (0, 0)], [(-1, 9), (1, 9)], [-1, -2])
        self.spells([(0, 0), (0, 4)], [(1, 9), (-1, 9)], [1, 2])
        self.spells([(0, 4), (0, 0)], [(1, 9), (-1, 9)], [2, 1])
        self.spells([(0, 0), (0, 4)], [(-1, 2), (1, 2)], [-1])
        self.spells([(0, 0), (0, 4)], [(1, 2), (-1, 2)], [1])
        self.spells([(0, 0), (0, 4), (0, -3)], [(0, 5), (1, 9)], [-2, -1, -3])
        self.spells([(0, 0), (0, 4), (0, -3)], [(1, 9), (0, 5)], [3, 1, 2])

    def test_several_rays_on_one_piece(self):
        marks = [(3, 0), (-3, 1), (0, 9), (1, -4), (-3, -2)]
        self.spells(marks, [(-9, 4), (9, 4)], [-2, -5, -4, -1])
        self.spells(marks, [(9, 4), (-9, 4)], [1, 4, 5, 2])
        self.spells(marks, [(9, 40), (-9, 40), (9, 40)], [1, 4, 3, 5, 2, -2, -5, -3, -4, -1])

    def test_rays_are_met_by_x_not_by_number(self):
        marks = [(5 - k, 0) for k in range(10)]
        self.spells(marks, [(-9, 1), (9, 1)], [-10, -9, -8, -7, -6, -5, -4, -3, -2, -1])
        self.spells(marks, [(9, 1), (-9, 1)], [1, 2, 3, 4, 5, 6, 7, 8, 9, 10])

    def test_16_marks_at_the_edges(self):
        marks = [(EDGE, -EDGE), (-EDGE, -EDGE)] + [(k, -k) for k in range(14)]
        self.spells(marks, [(-EDGE, EDGE), (EDGE, EDGE)], [-2] + [-(k + 3) for k in range(14)])
        self.spells(marks, [(EDGE, EDGE), (-EDGE, EDGE)], [k + 3 for k in reversed(range(14))] + [2])

    def test_the_longest_word(self):
        steps = [(mark(k, 0), [k]) for k in range(16)]
        there = [-1, 1, 20, 1] * 15
        steps.append((track(*there), [0]))
        steps += [(more(0, *there), [60 + 30 * k]) for k in range(5)]
        steps.append((more(0, *there[:40]), [200]))
        east = [-(k + 1) for k in range(16)]
        west = [16 - k for k in range(16)]
        letters = (east + west) * 99 + east
        self.check(*steps, (word(0), [len(letters), *letters]), (reduced(0), [16, *east]))

    def test_no_such_track(self):
        self.check((word(0), [-2]), (track(0, 0, 1, 1), [0]), (word(1), [-2]), (word(-1), [-2]), (word(HUGE), [-2]),
                   (word(-HUGE), [-2]), (word(0), [0]))

    def test_changes_nothing(self):
        self.check((mark(0, 0), [0]), (track(-1, 1, 1, 1, -1, 1), [0]), (word(0), [2, -1, 1]), (reduced(0), [0]),
                   (word(0), [2, -1, 1]), (reduced(0), [0]), (points(0), [3, -1, 1, 1, 1, -1, 1]), (points(1), [-2]),
                   (word(7), [-2]), (reduced(7), [-2]), (track(5, 5, 6, 6), [1]))

    def test_refused_calls_leave_the_word(self):
        self.check((mark(0, 0), [0]), (track(-1, 1, 1, 1), [0]), (more(0, -1, -1, 0, 0), [-5]), (more(0, -1), [-1]),
                   (put(0, 0, 0, 0), [-5]), (put(0, 1, 0, -1), [-1]), (word(0), [1, -1]), (reduced(0), [1, -1]),
                   (points(0), [2, -1, 1, 1, 1]))

    def test_every_small_piece(self):
        grid = list(product(range(-2, 3), repeat=2))
        marks = [(0, 0), (0, 1), (1, 0)]
        for a, b in product(grid, repeat=2):
            given = ask(*[mark(*place) for place in marks], track(*a, *b), word(0))[3:]
            if given[0] == [0]:
                letters = leaning_word([a, b], marks)
                self.assertEqual(given[1], [len(letters), *letters], (a, b))

    def test_random_tracks(self):
        rng = Random(2)
        seen = 0
        while seen < 300:
            marks = rng.sample(list(product(range(-4, 5), repeat=2)), 6)
            places = [(rng.randint(-5, 5), rng.randint(-5, 6)) for k in range(rng.randint(2, 12))]
            numbers = [n for place in places for n in place]
            given = ask(*[mark(*place) for place in marks], track(*numbers), word(0), reduced(0))[6:]
            if given[0] != [0]:
                continue
            seen += 1
            letters = leaning_word(places, marks)
            short = slowly_reduced(letters)
            self.assertEqual(plain_word(places, marks), letters)
            self.assertEqual(reduced_plainly(letters), short)
            self.assertEqual(given[1:], [[len(letters), *letters], [len(short), *short]])


class Reduced(CallCase):
    def test_whole_list(self):
        self.assertEqual(answers([1, 0, 0, 2, 6, -1, 1, 1, 1, 2, 2, 8, 0]), [1, 0, 1, 0, 2, 1, -1])
        self.assertEqual(answers([1, 0, 0, 2, 6, -1, 1, 1, 1, -1, 2, 8, 0]), [1, 0, 1, 0, 1, 0])

    def test_letters_that_come_side_by_side_later(self):
        marks = [(mark(0, 0), [0]), (mark(4, 0), [1]), (mark(8, 0), [2])]
        self.check(*marks, (track(-1, 1, 9, 1, -1, 2), [0]), (word(0), [6, -1, -2, -3, 3, 2, 1]), (reduced(0), [0]))
        self.check(*marks, (track(-1, 1, 9, 1, 3, 2, 3, -1, 9, -1), [0]), (word(0), [5, -1, -2, -3, 3, 2]),
                   (reduced(0), [1, -1]))
        self.check(*marks, (track(1, 1, 9, 1, 2, 2, -1, 2, 2, 3), [0]), (word(0), [6, -2, -3, 3, 2, 1, -1]),
                   (reduced(0), [0]))

    def test_the_same_letter_twice_stays(self):
        loop = [-1, 1, 1, 1, 1, -1, -1, -1]
        self.check((mark(0, 0), [0]), (track(*loop, *loop), [0]), (word(0), [2, -1, -1]), (reduced(0), [2, -1, -1]))

    def test_both_ways_round(self):
        right = [-1, 1, 1, 1, 1, -1, -1, -1]
        left = [-1, -1, 1, -1, 1, 1, -1, 1]
        self.check((mark(0, 0), [0]), (track(*right, *right, *left), [0]), (word(0), [3, -1, -1, 1]),
                   (reduced(0), [1, -1]))

    def test_others_between_keep_letters_apart(self):
        self.check((mark(0, 0), [0]), (mark(4, 0), [1]), (track(-1, 1, 2, 1, 6, 1, 6, -1, 2, -1, 2, 1, -1, 1), [0]),
                   (word(0), [3, -1, -2, 1]), (reduced(0), [3, -1, -2, 1]))

    def test_no_such_track(self):
        self.check((reduced(0), [-2]), (track(0, 0, 1, 1), [0]), (reduced(1), [-2]), (reduced(-1), [-2]),
                   (reduced(HUGE), [-2]), (reduced(-HUGE), [-2]), (reduced(0), [0]))

    def test_a_place_put_in_with_no_mark_between_leaves_it(self):
        rng = Random(3)
        seen = 0
        while seen < 200:
            marks = rng.sample(list(product(range(-4, 5), repeat=2)), 5)
            places = [(rng.randint(-5, 5), rng.randint(-5, 6)) for k in range(rng.randint(2, 9))]
            i = rng.randint(0, len(places) - 2)
            new = (rng.randint(-5, 5), rng.randint(-5, 6))
            if any(in_triangle(place, places[i], new, places[i + 1]) for place in marks):
                continue
            numbers = [n for place in places for n in place]
            given = ask(*[mark(*place) for place in marks], track(*numbers), reduced(0), put(0, i, *new), reduced(0))
            if given[5] == [0]:
                seen += 1
                self.assertEqual(given[7], [len(places) + 1])
                self.assertEqual(given[6], given[8])
