"""string: the touches of the taut cord."""

from tautstrings.desk import answers
from tests.helper import (CallCase, EDGE, HUGE, all_marks, ask, calls_of, faults_of_string, flat, laid, mark, points,
                          reduced, run, string, touches_in, track, word)

PORT = 1
STARBOARD = -1

# Once round the place (0, 0) from the west, and back there.
RIGHTWARDS = [(-3, 0), (0, 3), (3, 0), (0, -3)]
LEFTWARDS = [(-3, 0), (0, -3), (3, 0), (0, 3)]


class StringCase(CallCase):
    def taut(self, marks, places, *touches):
        """Each touch is the mark, the side, the halves, and 1 or 0; its place is the mark's."""
        told = [[*marks[touch[0]], *touch] for touch in touches]
        self.check(*laid(marks), *run(0, places), (string(0), [len(touches), *flat(told)]))
        self.assertEqual(faults_of_string(places, marks, [tuple(touch) for touch in told], 10 ** 8), [])

    def both_ways(self, marks, places, *touches):
        """The same backwards: the touches in the other order, each on its other side."""
        self.taut(marks, places, *touches)
        back = [(number, -side, halves, just) for number, side, halves, just in touches[::-1]]
        self.taut(marks, places[::-1], *back)


class WholeList(CallCase):
    def test_whole_list(self):
        self.assertEqual(answers([1, 0, 0, 2, 6, -3, -1, 0, 2, 3, -1, 9, 0]), [1, 0, 1, 0, 7, 1, 0, 0, 0, -1, 1, 0])
        self.assertEqual(answers([1, 0, 0, 2, 4, -3, 1, 3, 1, 9, 0]), [1, 0, 1, 0, 1, 0])

    def test_the_example(self):
        self.assertEqual(answers([1, 0, 0, 1, 4, 0, 2, 10, -2, -1, 0, 2, 2, -1, 4, -2, 6, 1, 7, 0, 9, 0]),
                         [1, 0, 1, 1, 1, 0, 2, 1, -1, 13, 2, 0, 0, 0, -1, 1, 0, 4, 0, 1, 1, 1, 0])

    def test_no_such_track(self):
        self.check((string(0), [-2]), (track(0, 0, 1, 1), [0]), (string(1), [-2]), (string(-1), [-2]),
                   (string(HUGE), [-2]), (string(-HUGE), [-2]), (string(0), [0]))

    def test_each_track_has_its_own(self):
        self.check((mark(0, 0), [0]), (track(-3, -1, 0, 2, 3, -1), [0]), (track(-3, -1, 0, -2, 3, -1), [1]),
                   (track(-3, 1, 0, -2, 3, 1), [2]), (string(1), [0]), (string(2), [1, 0, 0, 0, PORT, 1, 0]),
                   (string(0), [1, 0, 0, 0, STARBOARD, 1, 0]))

    def test_changes_nothing(self):
        kept = [(points(0), [3, -1, -1, 0, 2, 1, -1]), (word(0), [1, -1]), (reduced(0), [1, -1]),
                (all_marks(), [1, 0, 0]), (points(1), [-2])]
        self.check((mark(0, 0), [0]), (track(-1, -1, 0, 2, 1, -1), [0]), *kept,
                   (string(0), [1, 0, 0, 0, STARBOARD, 1, 0]), *kept, (string(1), [-2]), *kept,
                   (string(0), [1, 0, 0, 0, STARBOARD, 1, 0]), (track(5, 5, 6, 6), [1]))


class Straight(StringCase):
    def test_no_marks(self):
        self.taut([], [(0, 0), (5, 5)])
        self.taut([], [(0, 0), (5, 5), (-5, 5), (0, -9), (0, 0)])
        self.taut([], [(7, 7), (7, 7)])

    def test_straight_past_marks(self):
        marks = [(0, 0), (0, 2)]
        self.both_ways(marks, [(-3, 1), (3, 1)])
        self.both_ways(marks, [(-3, -1), (3, -1)])
        self.both_ways(marks, [(-3, 3), (3, 3)])
        self.both_ways(marks, [(-3, 1), (0, 1), (3, 1)])

    def test_bent_with_no_mark_in_the_bend(self):
        self.both_ways([(0, 0), (0, 4)], [(-3, 1), (0, 3), (3, 1)])
        self.both_ways([(0, 0), (0, 4)], [(-3, 1), (5, 1), (5, 9), (-5, 9), (-5, 1), (3, 1)],
                       (1, PORT, 2, 0))
        self.both_ways([(0, 0)], [(-3, 1), (-1, 9), (2, 2), (-2, 3), (3, 1)])

    def test_marks_on_the_same_line_beyond_the_ends(self):
        self.both_ways([(-4, 0), (4, 0)], [(-3, 0), (0, 5), (3, 0)])
        self.both_ways([(-4, 0), (4, 0)], [(-3, 0), (3, 0)])


class RoundOneMark(StringCase):
    def round(self, places, *touches):
        """Round a mark at (0, 0), also backwards, also turned by a quarter, a half and three quarters."""
        for quarter in range(4):
            self.both_ways([(0, 0)], places, *touches)
            places = [(-y, x) for x, y in places]

    def test_less_than_half_a_turn(self):
        self.round([(-3, 1), (0, 5), (3, 1)])
        self.round([(-3, 1), (0, 5), (6, -1)])
        self.round([(-3, 0), (0, 3), (300, 1)])

    def test_half_a_turn(self):
        self.round([(-3, 0), (0, 3), (3, 0)], (0, STARBOARD, 1, 1))
        self.round([(-3, 0), (0, -3), (3, 0)], (0, PORT, 1, 1))
        self.round([(-3, -2), (-9, 9), (6, 4)], (0, STARBOARD, 1, 1))
        self.round([(-3, -2), (9, -9), (6, 4)], (0, PORT, 1, 1))

    def test_more_than_half_a_turn(self):
        self.round([(-3, 0), (0, 3), (300, -1)], (0, STARBOARD, 1, 0))
        self.round([(-3, 0), (0, -3), (300, 1)], (0, PORT, 1, 0))
        self.round([(-3, 0), (0, 3), (3, 0), (0, -3)], (0, STARBOARD, 1, 0))
        self.round([(-3, 0), (0, 3), (3, 0), (0, -3), (-300, -1)], (0, STARBOARD, 1, 0))

    def test_a_whole_turn(self):
        self.round(RIGHTWARDS + [(-3, 0)], (0, STARBOARD, 2, 1))
        self.round(LEFTWARDS + [(-3, 0)], (0, PORT, 2, 1))

    def test_a_whole_turn_and_more(self):
        self.round(RIGHTWARDS + [(-300, 1)], (0, STARBOARD, 2, 0))
        self.round(LEFTWARDS + [(-300, -1)], (0, PORT, 2, 0))
        self.round(RIGHTWARDS + [(-3, 0), (0, 3), (300, 1)], (0, STARBOARD, 2, 0))
        self.round(RIGHTWARDS + [(-3, 0), (0, 3), (3, 0)], (0, STARBOARD, 3, 1))
        self.round(LEFTWARDS + [(-3, 0), (0, -3), (3, 0)], (0, PORT, 3, 1))
        self.round(LEFTWARDS + [(-3, 0), (0, -3), (3, 0), (0, 3)], (0, PORT, 3, 0))

    def test_several_turns(self):
        for turns in (2, 3, 6):
            self.round(RIGHTWARDS * turns + [(-3, 0)], (0, STARBOARD, 2 * turns, 1))
            self.round(LEFTWARDS * turns + [(-3, 0)], (0, PORT, 2 * turns, 1))
            self.round(RIGHTWARDS * turns + [(-3, 0), (0, 3), (3, 0)], (0, STARBOARD, 2 * turns + 1, 1))
            self.round(LEFTWARDS * turns + [(-300, 1)], (0, PORT, 2 * turns - 1, 0))
            self.round(LEFTWARDS * turns + [(-300, -1)], (0, PORT, 2 * turns, 0))

    def test_one_way_and_then_the_other(self):
        self.round(RIGHTWARDS * 3 + LEFTWARDS + [(-3, 0)], (0, STARBOARD, 4, 1))
        self.round(LEFTWARDS + RIGHTWARDS * 3 + [(-3, 0)], (0, STARBOARD, 4, 1))
        self.round(LEFTWARDS * 2 + RIGHTWARDS + [(-3, 0), (0, -3), (3, 0)], (0, PORT, 3, 1))

    def test_there_and_back_the_same_way_out_as_in(self):
        self.round([(-5, 0), (-3, 0), (0, 3), (3, 0), (0, -3), (-3, 0), (-5, 0)], (0, STARBOARD, 2, 1))
        self.round([(-5, 0), (0, -3), (3, 0), (0, 3), (-2, 0)], (0, PORT, 2, 1))
        self.round([(-2, -2), (-9, 9), (9, 9), (9, -9), (-1, -1)], (0, STARBOARD, 2, 1))

    def test_the_end_stands_close_by(self):
        self.round([(1, 0), (0, 1), (-1, 0), (0, -1), (5, 0)], (0, PORT, 2, 1))
        self.round([(1, 0), (0, 1), (-1, 0), (0, -1), (1, 0)], (0, PORT, 2, 1))
        self.round([(1, 0), (0, 1), (-1, 0)], (0, PORT, 1, 1))
        self.round([(1, 0), (0, 1)])
        self.round([(-1, -1), (-1, 1), (1, 1), (EDGE, -EDGE)], (0, STARBOARD, 1, 0))
        self.round([(0, -1), (-1, 0), (0, 1), (-EDGE, EDGE)])
        self.round([(0, -1), (-1, 0), (0, 1), (EDGE, EDGE)], (0, STARBOARD, 1, 0))
        self.round([(0, -1), (-1, 0), (0, 1), (0, EDGE)], (0, STARBOARD, 1, 1))

    def test_two_places_in_a_row_that_are_the_same(self):
        doubled = [place for place in RIGHTWARDS for again in range(2)]
        self.round(doubled + [(-3, 0)], (0, STARBOARD, 2, 1))
        self.round(doubled + [(-3, 0), (-3, 0), (-3, 0)], (0, STARBOARD, 2, 1))
        self.round([(-3, 0), (-3, 0)])
        self.round([(-3, 0), (-3, 0), (3, 1), (3, 1)])

    def test_corners_straight_back_the_way_they_came(self):
        self.round([(-3, 0), (-9, 0), (-1, 0), (0, 3), (0, 9), (0, 1), (3, 0), (9, 0), (3, 0)], (0, STARBOARD, 1, 1))
        self.round([(-3, 0), (3, 6), (-3, 0), (3, -6), (-3, 0)])
        self.round([(-3, 0), (0, 3), (3, 0), (0, 3), (-3, 0)])
        self.round([(-3, 0), (0, 3), (3, 0), (0, 3), (3, 0)], (0, STARBOARD, 1, 1))

    def test_far_out(self):
        self.both_ways([(0, 0)], [(-EDGE, -EDGE), (-EDGE, EDGE), (EDGE, EDGE)], (0, STARBOARD, 1, 1))
        self.both_ways([(0, 0)], [(-EDGE, -EDGE), (-EDGE, EDGE), (EDGE - 1, EDGE)])
        self.both_ways([(0, 0)], [(-EDGE, -EDGE), (-EDGE, EDGE), (EDGE, EDGE - 1)], (0, STARBOARD, 1, 0))
        self.both_ways([(EDGE, EDGE)], [(-EDGE, EDGE), (EDGE, -EDGE), (EDGE, EDGE - 1)])


class BackToTheFirstPlace(StringCase):
    def test_round_nothing(self):
        marks = [(0, 0), (4, 0)]
        self.both_ways(marks, [(-3, 0), (-3, 0)])
        self.both_ways(marks, [(-3, 0), (0, 3), (-3, 0)])
        self.both_ways(marks, [(-3, 0), (0, 3), (3, 3), (-3, 9), (-3, 0)])
        self.both_ways(marks, RIGHTWARDS + LEFTWARDS + [(-3, 0)])
        there = [(-3, 0), (0, 3), (2, 0), (4, -3), (7, 0), (4, 3), (2, 0), (0, -3)]
        self.both_ways(marks, there + [(-9, -9)] + there[::-1])

    def test_round_marks(self):
        marks = [(0, 0), (4, 0)]
        self.both_ways(marks, [(2, -5), (9, 0), (2, 5), (-5, 0), (2, -5)], (1, PORT, 1, 0), (0, PORT, 1, 0))
        self.both_ways(marks, [(2, -5), (9, 0), (2, 5), (2, -5)], (1, PORT, 2, 1))
        marks = [(-2, -2), (2, -2), (2, 2), (-2, 2)]
        ring = [(0, -9), (9, 0), (0, 9), (-9, 0)]
        self.both_ways(marks, ring + [(0, -9)], (1, PORT, 1, 0), (2, PORT, 1, 0), (3, PORT, 1, 0), (0, PORT, 1, 0))
        twice = [(1, PORT, 1, 0), (2, PORT, 1, 0), (3, PORT, 1, 0), (0, PORT, 1, 0)] * 2
        self.both_ways(marks, ring * 2 + [(0, -9)], *twice)

    def test_round_one_and_the_other_and_back(self):
        # Rightwards round the first, leftwards round the second, then leftwards and rightwards.
        marks = [(-2, 0), (2, 0)]
        middle = [(0, -4), (0, 4)]
        west = [(0, -4), (-5, 0), (0, 4)]
        east = [(0, -4), (5, 0), (0, 4)]
        path = west + [(0, -4)] + east[1:] + middle + west[::-1][1:] + middle[1:] + east[::-1][1:]
        self.both_ways(marks, path, (0, STARBOARD, 1, 0), (1, PORT, 2, 1), (0, PORT, 2, 1), (1, STARBOARD, 1, 0))

    def test_round_all_and_once_more_round_one(self):
        marks = [(-2, 0), (2, 0)]
        self.both_ways(marks, [(0, -4), (-5, 0), (0, 4), (5, 0), (0, -4), (0, 4)], (0, STARBOARD, 1, 0),
                       (1, STARBOARD, 2, 0))


class OnOneLine(StringCase):
    def test_straight_on_past_one(self):
        self.both_ways([(0, 0)], [(-4, -2), (-4, 2), (4, 2)], (0, STARBOARD, 1, 1))
        self.both_ways([(0, 0)], [(-4, -2), (4, -2), (4, 2)], (0, PORT, 1, 1))
        self.both_ways([(0, 0)], [(0, -4), (1, 0), (0, 4)], (0, PORT, 1, 1))
        self.both_ways([(0, 0)], [(0, -4), (-1, 0), (0, 4)], (0, STARBOARD, 1, 1))

    def test_each_on_its_own_side(self):
        marks = [(0, 0), (4, 0), (8, 0)]
        for bits in range(8):
            sides = [PORT if bits >> k & 1 else STARBOARD for k in range(3)]
            places = [(-2, 0)]
            for k in range(3):
                places += [(4 * k, -sides[k]), (4 * k + 2, 0)]
            self.both_ways(marks, places, *[(k, sides[k], 1, 1) for k in range(3)])

    def test_all_on_one_side(self):
        marks = [(8, 0), (0, 0), (2, 0), (4, 0)]
        over = [(n, STARBOARD, 1, 1) for n in (1, 2, 3, 0)]
        under = [(n, PORT, 1, 1) for n in (1, 2, 3, 0)]
        self.both_ways(marks, [(-3, 0), (4, 5), (9, 0)], *over)
        self.both_ways(marks, [(-3, 0), (4, -5), (9, 0)], *under)
        self.both_ways(marks, [(-3, 0), (4, 5), (6, 0)], *over[:3])
        upright = [(0, 8), (0, 0), (0, 2), (0, 4)]
        self.both_ways(upright, [(0, -3), (5, 4), (0, 9)], *under)
        self.both_ways(upright, [(0, -3), (-5, 4), (0, 9)], *over)
        slanting = [(16, 8), (0, 0), (4, 2), (8, 4)]
        self.both_ways(slanting, [(-2, -1), (0, 9), (18, 9)], *over)
        self.both_ways(slanting, [(-2, -1), (9, 0), (18, 9)], *under)

    def test_a_mark_off_the_line_keeps_the_cord_from_those_on_it(self):
        marks = [(0, 0), (2, 0), (4, 0), (2, 1)]
        self.both_ways(marks, [(-3, 0), (2, 9), (7, 0)], (3, STARBOARD, 1, 0))
        self.both_ways(marks, [(-3, 0), (2, -9), (7, 0)], (0, PORT, 1, 1), (1, PORT, 1, 1), (2, PORT, 1, 1))

    def test_marks_on_the_sides_of_the_figure_that_holds_the_cord(self):
        marks = [(2, 2), (4, 4), (6, 4), (8, 4), (6, 3), (10, 2)]
        self.both_ways(marks, [(0, 0), (6, 20), (12, 0)], (0, STARBOARD, 1, 1), (1, STARBOARD, 1, 0),
                       (2, STARBOARD, 1, 1), (3, STARBOARD, 1, 0), (5, STARBOARD, 1, 1))

    def test_to_and_fro(self):
        marks = [(0, 0), (2, 0), (4, 0)]
        self.both_ways(marks, [(-3, 0), (2, 5), (7, 0), (2, -5), (-3, 0)], (0, STARBOARD, 1, 1), (1, STARBOARD, 1, 1),
                       (2, STARBOARD, 2, 1), (1, STARBOARD, 1, 1), (0, STARBOARD, 1, 1))
        self.both_ways(marks, [(-3, 0), (2, 5), (7, 0), (4, -5), (3, 0), (2, 5), (-3, 0)], (0, STARBOARD, 1, 1),
                       (1, STARBOARD, 1, 1), (2, STARBOARD, 2, 1), (1, PORT, 1, 1), (0, PORT, 1, 1))
        self.both_ways(marks, [(-3, 0), (0, 5), (3, 0), (2, -5), (1, 0), (4, 5), (7, 0)], (0, STARBOARD, 1, 1),
                       (1, STARBOARD, 3, 1), (2, STARBOARD, 1, 1))
        self.both_ways(marks, [(1, 0), (2, 5), (3, 0), (4, -5), (5, 0), (4, 5), (3, 0), (2, 5), (1, 0), (0, -5),
                               (-1, 0), (0, 5), (1, 0)],
                       (1, STARBOARD, 1, 1), (2, PORT, 2, 1), (1, PORT, 1, 1), (0, STARBOARD, 2, 1))

    def test_out_past_a_mark_and_straight_back_past_it(self):
        # On one side both times the mark does not hold the cord, on two sides it does.
        marks = [(0, 0), (4, 0)]
        self.both_ways(marks, [(-3, 0), (0, 5), (2, 0), (0, 5), (-3, 0)])
        self.both_ways(marks, [(-3, 0), (0, 5), (2, 0), (0, -5), (-3, 0)], (0, STARBOARD, 2, 1))


class Among16(StringCase):
    def test_slalom(self):
        marks = [(4 * k, 0) for k in range(16)]
        places = [(-2, 0)]
        sides = [STARBOARD if k % 2 else PORT for k in range(16)]
        for k in range(16):
            places += [(4 * k, -sides[k]), (4 * k + 2, 0)]
        touches = [(k, sides[k], 1, 1) for k in range(16)]
        self.both_ways(marks, places, *touches)

    def test_200_places_round_a_row_of_marks(self):
        marks = [(2 * k, 0) for k in range(16)]
        ring = [(-3, 0), (15, 20), (33, 0), (15, -20)]
        east = [(k, STARBOARD, 1, 1) for k in range(1, 15)]
        places = ring * 49 + [(-3, 0), (-3, 0), (-3, 0), (-4, 0)]
        self.assertEqual(len(places), 200)
        touches = [(0, STARBOARD, 1, 1)]
        for turn in range(49):
            touches += east + [(15, STARBOARD, 2, 1)] + east[::-1]
            touches.append((0, STARBOARD, 2, 1))
        touches[-1] = (0, STARBOARD, 1, 1)
        self.both_ways(marks, places, *touches)

    def test_200_places_round_a_ring_of_marks(self):
        arc = [(20, 1), (18, 7), (14, 12), (8, 17)]
        marks = arc + [(-y, x) for x, y in arc] + [(-x, -y) for x, y in arc] + [(y, -x) for x, y in arc]
        ring = [(0, -60), (60, 0), (0, 60), (-60, 0)]
        places = ring * 49 + [(0, -60)] + ring[1:]
        self.assertEqual(len(places), 200)
        told = ask(*calls_of(laid(marks) + run(0, places)), string(0))[-1]
        numbers = [touch[2] for touch in touches_in(told)]
        self.assertEqual(numbers, [(numbers[0] + k) % 16 for k in range(told[0])])
        self.assertEqual({touch[3:] for touch in touches_in(told)}, {(PORT, 1, 0)})
        self.assertTrue(49 * 16 < told[0] < 50 * 16)
        self.assertEqual(faults_of_string(places, marks, touches_in(told), 10 ** 8), [])

    def test_200_places_there_and_back(self):
        marks = [(k % 4, k // 4) for k in range(16)]
        there = [(-1 + 6 * (k % 2), -2 + 7 * (k // 2 % 2) + 8 * (k % 3)) for k in range(100)]
        there = [(9 * x - 3, 9 * y - 4) for x, y in there]
        self.taut(marks, there + there[::-1])

    def test_200_places_round_one_of_16_marks(self):
        marks = [(0, 0)] + [(100 + k, k * k) for k in range(15)]
        places = LEFTWARDS * 49 + [(-3, 0), (-9, 0), (-3, 0), (-3, 0)]
        self.assertEqual(len(places), 200)
        self.both_ways(marks, places, (0, PORT, 98, 1))
