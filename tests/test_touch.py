"""touch, and -5 of track, more and put, which is the same question."""

from fractions import Fraction
from itertools import product
from random import Random

from tautstrings.desk import answers
from tests.helper import CallCase, EDGE, HUGE, ask, many_tracks, mark, more, points, put, reduced, touch, track, word


def plainly_on(place, a, b):
    """Another way to tell it: some share of the way from a leads to the place."""
    if a == b:
        return place == a
    axis = 0 if a[0] != b[0] else 1
    share = Fraction(place[axis] - a[axis], b[axis] - a[axis])
    if not 0 <= share <= 1:
        return False
    return all(a[k] + share * (b[k] - a[k]) == place[k] for k in (0, 1))


class Touch(CallCase):
    def test_whole_list(self):
        self.assertEqual(answers([1, 0, 0, 3, 4, -1, 0, 1, 0, 3, 4, -1, 1, 1, 1]), [1, 0, 3, 1, 0, 0, 1, 0])

    def touched(self, places, answer):
        """One mark at (2, 1); touch answers, and track refuses just so."""
        self.check((mark(2, 1), [0]), (touch(*places), answer), (track(*places), [0] if answer == [0] else [-5]))

    def test_at_an_end(self):
        self.touched([2, 1, 5, 9], [1, 0, 0])
        self.touched([5, 9, 2, 1], [1, 0, 0])
        self.touched([2, 1, 2, 8], [1, 0, 0])
        self.touched([8, 1, 2, 1], [1, 0, 0])

    def test_in_the_middle(self):
        self.touched([0, 0, 4, 2], [1, 0, 0])
        self.touched([6, 3, -2, -1], [1, 0, 0])
        self.touched([0, 2, 4, 0], [1, 0, 0])
        self.touched([2, -5, 2, 5], [1, 0, 0])
        self.touched([9, 1, -9, 1], [1, 0, 0])

    def test_beyond_an_end_on_the_same_line(self):
        for places in ([4, 2, 6, 3], [6, 3, 4, 2], [0, 0, -2, -1], [-2, -1, 0, 0], [3, 1, 9, 1], [1, 1, -4, 1],
                       [2, 2, 2, 9], [2, 0, 2, -9], [4, 0, 6, -1], [0, 2, -2, 3]):
            self.touched(places, [0])

    def test_on_a_piece_of_one_place(self):
        self.touched([2, 1, 2, 1], [1, 0, 0])
        self.touched([2, 2, 2, 2], [0])
        self.touched([3, 1, 3, 1], [0])
        self.touched([0, 0, 0, 0], [0])
        self.touched([0, 0, 0, 0, 2, 1, 2, 1], [1, 1, 0])

    def test_a_hair_beside(self):
        self.check((mark(1, 1), [0]), (mark(-999999, -999998), [1]),
                   (touch(-EDGE, -EDGE, EDGE, EDGE - 1), [0]), (touch(-EDGE, -EDGE, EDGE - 1, EDGE), [0]),
                   (touch(-EDGE, -EDGE, EDGE, EDGE), [1, 0, 0]),
                   (touch(-EDGE, 0, EDGE, 1), [0]), (touch(-EDGE, 1, EDGE, 1), [1, 0, 0]))

    def test_the_first_piece(self):
        self.check((mark(8, 0), [0]), (mark(4, 0), [1]), (mark(0, 0), [2]),
                   (touch(-1, 1, -1, 0, 1, 0, 3, 1, 3, 0, 9, 0), [1, 1, 2]),
                   (touch(9, 1, 9, 0, 5, 0, -1, 0), [1, 1, 0]),
                   (touch(3, -1, 5, 1, 8, 1, 8, -1), [1, 0, 1]))

    def test_between_two_pieces_the_one_before(self):
        self.check((mark(0, 0), [0]), (touch(-5, 5, -3, 0, 0, 0, 3, 0), [1, 1, 0]))

    def test_the_least_number_on_it(self):
        self.check((mark(9, 9), [0]), (mark(4, 0), [1]), (mark(0, 0), [2]), (mark(2, 0), [3]),
                   (touch(-1, 0, 5, 0), [1, 0, 1]), (touch(5, 0, -1, 0), [1, 0, 1]), (touch(-1, 0, 3, 0), [1, 0, 2]))

    def test_no_marks(self):
        self.check((touch(0, 0, 1, 1), [0]), (touch(0, 0, 0, 0), [0]))

    def test_many_places(self):
        self.check((mark(29, 0), [0]), (touch(*[n for k in range(30) for n in (k, 1 if k < 29 else 0)]), [1, 28, 0]))

    def test_bad_list(self):
        self.check((mark(0, 0), [0]), (touch(), [-1]), (touch(0), [-1]), (touch(0, 0), [-1]), (touch(0, 0, 0), [-1]),
                   (touch(0, 0, 0, 0, 1), [-1]), (touch(0, 0, 0, 0), [1, 0, 0]))
        for far in (EDGE + 1, HUGE, -EDGE - 1, -HUGE):
            self.check((mark(0, 0), [0]), (touch(0, 0, far, 0), [-1]), (touch(0, 0, 0, far), [-1]),
                       (touch(far, 0, 0, 0), [-1]), (touch(0, far, 0, 0), [-1]))

    def test_edges_of_the_range(self):
        self.check((mark(EDGE, -EDGE), [0]), (touch(-EDGE, -EDGE, EDGE, -EDGE), [1, 0, 0]),
                   (touch(-EDGE, -EDGE, EDGE, EDGE), [0]))

    def test_8_tracks_are_no_matter(self):
        self.check((mark(0, 0), [0]), *many_tracks(8), (touch(-1, 0, 1, 0), [1, 0, 0]), (touch(1, 1, 2, 2), [0]))

    def test_changes_nothing(self):
        self.check((mark(0, 0), [0]), (touch(1, 1, 2, 2), [0]), (points(0), [-2]), (mark(5, 5), [1]),
                   (track(-1, 1, 1, 1), [0]), (touch(-1, 0, 1, 0), [1, 0, 0]), (touch(7, 8, 9, 9), [0]),
                   (touch(1), [-1]), (points(0), [2, -1, 1, 1, 1]), (points(1), [-2]), (word(0), [1, -1]),
                   (reduced(0), [1, -1]), (track(1, 1, 2, 2), [1]))

    def test_every_small_piece(self):
        grid = list(product(range(-2, 3), repeat=2))
        for a, b in product(grid, repeat=2):
            expected = [[0]]
            expected.append([1, 0, 0] if plainly_on((0, 0), a, b) else [0])
            self.assertEqual(ask(mark(0, 0), touch(*a, *b)), expected, (a, b))

    def test_random_rows(self):
        rng = Random(1)
        for turn in range(400):
            marks = rng.sample(list(product(range(-4, 5), repeat=2)), 4)
            places = [(rng.randint(-5, 5), rng.randint(-5, 5)) for k in range(rng.randint(2, 6))]
            found = [[1, k, m] for k in range(len(places) - 1) for m in range(4)
                     if plainly_on(marks[m], places[k], places[k + 1])]
            numbers = [n for place in places for n in place]
            given = ask(*[mark(*place) for place in marks], touch(*numbers), track(*numbers))
            self.assertEqual(given[4:], [found[0], [-5]] if found else [[0], [0]])


class MarksOnNewPieces(CallCase):
    def test_more(self):
        for places in ([-2, 0], [0, 0], [1, 0, 0, 0], [0, 5, 0, -1], [2, 5, -2, -5]):
            self.check((mark(0, 0), [0]), (track(3, 3, 2, 0), [0]), (more(0, *places), [-5]))
        for places in ([2, 0], [1, 0], [-1, 1], [0, 5, 0, 1], [2, 5, -2, -4]):
            self.check((mark(0, 0), [0]), (track(3, 3, 2, 0), [0]), (more(0, *places), [2 + len(places) // 2]))

    def test_more_looks_at_the_joint(self):
        self.check((mark(0, 0), [0]), (track(-2, 4, -2, 0), [0]), (more(0, 2, 0, 2, 4), [-5]),
                   (points(0), [2, -2, 4, -2, 0]), (more(0, 2, 4, 2, 0), [4]))

    def test_put_looks_at_both_new_pieces(self):
        self.check((mark(0, 0), [0]), (mark(4, 4), [1]), (track(-4, 0, 4, 8), [0]),
                   (put(0, 0, 4, 0), [-5]), (put(0, 0, -8, 0), [3]), (put(0, 1, 8, 0), [-5]),
                   (put(0, 1, 4, -8), [-5]), (put(0, 1, 0, 0), [-5]), (put(0, 1, 0, 8), [4]),
                   (points(0), [4, -4, 0, -8, 0, 0, 8, 4, 8]))

    def test_put_no_longer_looks_at_the_old_piece(self):
        self.check((mark(0, 0), [0]), (track(-1, 1, 1, 1), [0]), (put(0, 0, 0, -1), [3]), (put(0, 0, 0, 0), [-5]))
