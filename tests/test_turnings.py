"""Points 2 to 13 as far as they speak of turnings."""

import copy
import unittest

from jawturns.errors import BadRound, BadRows, BadStanding, BadTurn
from jawturns.turnings import Turning
from tests.helpers import (DEEP, FAR, HUGE, NOT_INTEGERS, NOT_PAIRS, NOT_ROWS, Case, sample_rows, slow_lifted,
                           slow_period, table)

ROWS = [(3, 4), (8, 1)]


class Making(Case):

    def test_examples_of_the_interface(self):
        turning = Turning(12, [(3, 4), (8, 1)])
        self.assertEqual(
            [turning(8), turning.lifted(8), turning.lifted(2), turning.lifted(-1), turning.rests(), turning.period],
            [1, 13, 1, 1, [1, 4], 12])
        self.assertEqual(Turning.of_widths([5, 3, 4, 6, 2, 4]).rows, ((0, 1), (3, 4)))

    def test_attributes(self):
        for around, rows in sample_rows():
            for given in (rows, tuple(rows)):
                turning = Turning(around, given)
                self.assertEqual(turning.around, around)
                self.assertIs(type(turning.around), int)
                self.assertEqual(turning.rows, tuple(rows))
                self.assertIs(type(turning.rows), tuple)
                self.assertEqual({type(row) for row in turning.rows}, {tuple})
                self.assertEqual(turning.begins, [begin for begin, _ in rows])
                self.assertEqual(turning.rests(), sorted(rest for _, rest in rows))
                self.assertEqual(len(turning), len(rows))

    def test_arguments_by_name(self):
        turning = Turning(rows=ROWS, around=12)
        self.assertEqual(turning, Turning(12, ROWS))
        self.assertEqual([turning.lifted(x=8), turning(x=8), turning.turned(c=12)], [13, 1, turning])
        self.assertEqual(Turning.of_widths(widths=[2, 1]).rows, ((0, 1),))

    def test_rounds_at_the_edges(self):
        for around in (2, 3, 359, 360):
            self.assertEqual(Turning(around, [(0, 0)]).around, around)
        for around in (1, 0, -1, -12, 361, 10 ** 6, HUGE, -HUGE):
            self.refused(BadRound, around, Turning, around, [(0, 0)])

    def test_strange_rounds(self):
        for around in NOT_INTEGERS:
            self.refused(BadRound, around, Turning, around, [(0, 0)])

    def test_bad_round_comes_first(self):
        for rows in ([], None, [(0, 5)], [(9, 9)], ["ab"]):
            self.refused(BadRound, 1, Turning, 1, rows)
            self.refused(BadRound, True, Turning, True, rows)

    def test_number_of_pairs(self):
        pairs = [(x, x) for x in range(20)]
        for many in (1, 2, 11, 12):
            self.assertEqual(len(Turning(20, pairs[:many])), many)
        for rows in ([], (), pairs[:13], tuple(pairs[:13]), pairs, ["bad"] * 13):
            self.refused(BadRows, -1, Turning, 20, rows)

    def test_strange_rows(self):
        for rows in NOT_ROWS:
            self.refused(BadRows, -1, Turning, 12, rows)

    def test_strange_pairs(self):
        for pair in NOT_PAIRS:
            self.refused(BadRows, 0, Turning, 12, [pair])
            self.refused(BadRows, 1, Turning, 12, [(2, 2), pair, (5, 5)])
            self.refused(BadRows, 2, Turning, 12, ((1, 1), (2, 2), pair))

    def test_numbers_of_a_pair(self):
        self.assertEqual(Turning(12, [(0, 11)]).rows, ((0, 11),))
        self.assertEqual(Turning(12, [(11, 0)]).rows, ((11, 0),))
        for pair in ((-1, 0), (0, -1), (12, 0), (0, 12), (HUGE, 0), (0, HUGE), (-HUGE, 0), (0, -HUGE)):
            self.refused(BadRows, 0, Turning, 12, [pair])

    def test_begins_ascend_strictly(self):
        self.refused(BadRows, 1, Turning, 12, [(3, 3), (3, 3)])
        self.refused(BadRows, 1, Turning, 12, [(3, 3), (2, 2)])
        self.refused(BadRows, 2, Turning, 12, [(3, 3), (5, 5), (4, 4), (1, 1)])

    def test_rests_lie_in_their_stretches(self):
        self.assertEqual(Turning(12, [(3, 7), (8, 2)]).rows, ((3, 7), (8, 2)))
        self.assertEqual(Turning(12, [(3, 3), (8, 8)]).rows, ((3, 3), (8, 8)))
        self.assertEqual(Turning(12, [(3, 3), (8, 11)]).rows, ((3, 3), (8, 11)))
        self.refused(BadRows, 0, Turning, 12, [(3, 8), (8, 1)])
        self.refused(BadRows, 0, Turning, 12, [(3, 2), (8, 1)])
        self.refused(BadRows, 1, Turning, 12, [(3, 4), (8, 3)])
        self.refused(BadRows, 1, Turning, 12, [(3, 4), (8, 7)])
        self.refused(BadRows, 1, Turning, 12, [(0, 0), (4, 8), (8, 3)])

    def test_one_pair_takes_any_rest(self):
        for begin in range(5):
            for rest in range(5):
                self.assertEqual(Turning(5, [(begin, rest)]).rows, ((begin, rest),))

    def test_bad_pairs_come_before_bad_rests(self):
        self.refused(BadRows, 2, Turning, 12, [(3, 9), (8, 1), (8, 8)])
        self.refused(BadRows, 1, Turning, 12, [(3, 9), (8, True)])
        self.refused(BadRows, 0, Turning, 12, [(3, 9), (8, 4)])

    def test_it_copies_its_rows(self):
        rows = [(3, 4), (8, 1)]
        turning = Turning(12, rows)
        rows.append((10, 10))
        rows[0] = (0, 0)
        self.assertEqual(turning.rows, ((3, 4), (8, 1)))
        self.assertEqual(turning, Turning(12, ROWS))
        self.assertEqual(turning.lifted(3), 4)

    def test_no_call_changes_an_argument(self):
        rows = [(3, 4), (8, 1)]
        widths = [5, 3, 4, 6, 2, 4]
        Turning(12, rows)
        Turning.of_widths(widths)
        self.assertEqual([rows, widths], [[(3, 4), (8, 1)], [5, 3, 4, 6, 2, 4]])

    def test_returned_lists_belong_to_the_caller(self):
        turning = Turning(12, ROWS)
        turning.begins.append(99)
        turning.rests().clear()
        self.assertEqual([turning.begins, turning.rests()], [[3, 8], [1, 4]])
        self.assertEqual([turning, turning(8), len(turning)], [Turning(12, ROWS), 1, 2])

    def test_equality(self):
        samples = sample_rows()
        for around, rows in samples:
            self.assertTrue(Turning(around, rows) == Turning(around, tuple(rows)))
            self.assertFalse(Turning(around, rows) != Turning(around, tuple(rows)))
        keys = {(around, tuple(rows)) for around, rows in samples}
        made = [Turning(around, rows) for around, rows in sorted(keys)]
        for at, one in enumerate(made):
            for other in made[:at]:
                self.assertFalse(one == other)
                self.assertTrue(one != other)
        self.assertNotEqual(Turning(12, [(0, 0)]), Turning(13, [(0, 0)]))
        self.assertNotEqual(Turning(12, [(0, 0)]), Turning(12, [(1, 0)]))
        self.assertNotEqual(Turning(12, [(0, 0)]), Turning(12, [(0, 1)]))


class Lifting(Case):

    def test_example_of_the_document(self):
        turning = Turning(12, ROWS)
        self.assertEqual([turning.lifted(x) for x in (8, 2, 3, -1)], [13, 1, 4, 1])

    def test_every_integer_of_several_laps(self):
        for around, rows in sample_rows():
            turning = Turning(around, rows)
            slow = table(around, rows)
            for x in range(-3 * around, 3 * around):
                self.assertEqual(turning.lifted(x), slow(x))
                self.assertEqual(turning(x), slow(x) % around)

    def test_far_integers(self):
        for around, rows in sample_rows():
            turning = Turning(around, rows)
            for x in FAR:
                self.assertEqual(turning.lifted(x), slow_lifted(around, rows, x))
                self.assertEqual(turning(x), slow_lifted(around, rows, x) % around)

    def test_what_point_10_says_of_it(self):
        for around, rows in sample_rows():
            turning = Turning(around, rows)
            lifts = [turning.lifted(x) for x in range(-around, 2 * around + 1)]
            self.assertEqual(lifts, sorted(lifts))
            for x in range(-around, around):
                self.assertEqual(turning.lifted(x + around), turning.lifted(x) + around)
                self.assertLess(abs(turning.lifted(x) - x), around)
                self.assertEqual(turning.lifted(turning.lifted(x)), turning.lifted(x))
            for rest in turning.rests():
                self.assertEqual(turning.lifted(rest), rest)

    def test_strange_standings(self):
        turning = Turning(12, ROWS)
        for x in NOT_INTEGERS:
            self.refused(BadStanding, x, turning.lifted, x)
            self.refused(BadStanding, x, turning, x)
        self.assertEqual(turning, Turning(12, ROWS))


class Periods(Case):

    def test_by_definition(self):
        for around, rows in sample_rows():
            turning = Turning(around, rows)
            slow = table(around, rows)
            self.assertEqual(turning.period, slow_period(around, [slow]), (around, rows))
            even = around % 2 == 0 and all(
                slow(x + around // 2) == slow(x) + around // 2 for x in range(around))
            self.assertIs(turning.is_even(), even, (around, rows))

    def test_told_ones(self):
        self.assertEqual(Turning(2, [(0, 0), (1, 1)]).period, 1)
        self.assertEqual(Turning(2, [(0, 1)]).period, 2)
        self.assertEqual(Turning(12, [(x, x) for x in range(12)]).period, 1)
        self.assertEqual(Turning(12, [(0, 1), (4, 5), (6, 7), (10, 11)]).period, 6)
        self.assertEqual(Turning(360, [(x * 30, x * 30) for x in range(12)]).period, 30)
        self.assertEqual(Turning(360, [(0, 0)]).period, 360)
        # The begins alone would have the period 6, the rests break it.
        self.assertEqual(Turning(12, [(0, 1), (6, 8)]).period, 12)

    def test_even_and_odd(self):
        self.assertIs(Turning(12, [(0, 1), (6, 7)]).is_even(), True)
        self.assertIs(Turning(12, [(0, 1), (6, 8)]).is_even(), False)
        self.assertIs(Turning(12, [(0, 0), (4, 4), (8, 8)]).is_even(), False)
        self.assertIs(Turning(12, [(x * 2, x * 2) for x in range(6)]).is_even(), True)
        self.assertIs(Turning(2, [(0, 0), (1, 1)]).is_even(), True)
        self.assertIs(Turning(2, [(0, 0)]).is_even(), False)
        self.assertIs(Turning(3, [(0, 0), (1, 1), (2, 2)]).is_even(), False)
        self.assertIs(Turning(9, [(0, 0), (3, 3), (6, 6)]).is_even(), False)


class Moving(Case):

    def test_turned_by_definition(self):
        for around, rows in sample_rows():
            turning = Turning(around, rows)
            slow = table(around, rows)
            for c in FAR + list(range(13)):
                moved = turning.turned(c)
                self.assertIsInstance(moved, Turning)
                for x in range(-around, around, max(1, around // 40)):
                    self.assertEqual(moved.lifted(x), slow(x - c) + c)
                pairs = sorted(((begin + c) % around, (rest + c) % around) for begin, rest in rows)
                self.assertEqual(moved.rows, tuple(pairs))
            self.assertEqual(turning, Turning(around, rows))

    def test_turned_all_the_way(self):
        turning = Turning(12, ROWS)
        self.assertEqual(turning.turned(5).rows, ((1, 6), (8, 9)))
        self.assertEqual(turning.turned(0), turning)
        self.assertEqual(turning.turned(-12), turning)
        self.assertEqual(turning.turned(HUGE).turned(-HUGE), turning)

    def test_strange_moves(self):
        turning = Turning(12, ROWS)
        for c in NOT_INTEGERS:
            self.refused(BadTurn, c, turning.turned, c)
        self.assertEqual(turning, Turning(12, ROWS))

    def test_mirrored_by_definition(self):
        for around, rows in sample_rows():
            turning = Turning(around, rows)
            slow = table(around, rows)
            mirrored = turning.mirrored()
            for x in range(-2 * around, 2 * around):
                self.assertEqual(mirrored.lifted(x), -slow(-x))
            for x in FAR:
                self.assertEqual(mirrored.lifted(x), -slow(-x))
            self.assertEqual(mirrored.mirrored(), turning)
            self.assertEqual(turning, Turning(around, rows))

    def test_a_told_mirror_image(self):
        # Stretches 3 to 7 and 8 to 14 become 5 to 9 and 10 to 16.
        self.assertEqual(Turning(12, ROWS).mirrored().rows, ((5, 8), (10, 11)))


class Widths(Case):

    def downhill(self, widths):
        """The places that each place comes to by steps downward; a top goes upward in x."""
        n = len(widths)
        found = []
        for x in range(n):
            step = 1 if widths[(x + 1) % n] < widths[x] else -1
            while widths[(x + step) % n] < widths[x % n]:
                x += step
            found.append(x)
        return found

    def test_the_part_turns_downhill(self):
        for widths in ([5, 3, 4, 6, 2, 4], [1, 2], [2, 1], [0, 10 ** 12], [1, 2, 3], [3, 2, 1], [2, 3, 1],
                       [4, 1, 3, 2], (9, 7, 8, 3, 5, 1, 0, 4), [x for x in range(360)],
                       [(x * 7919) % 997 if 5 < x < 17 else 1000 + x for x in range(360)],
                       [0, 1] * 12, [3, 1, 2, 1] * 6):
            turning = Turning.of_widths(widths)
            self.assertIsInstance(turning, Turning)
            self.assertEqual(turning.around, len(widths))
            slow = self.downhill(widths)
            self.assertEqual([turning.lifted(x) for x in range(len(widths))], slow)

    def test_tops_and_valleys(self):
        self.assertEqual(Turning.of_widths([1, 2]).rows, ((1, 0),))
        self.assertEqual(Turning.of_widths([2, 1]).rows, ((0, 1),))
        self.assertEqual(Turning.of_widths((1, 2, 3)).rows, ((2, 0),))
        self.assertEqual(Turning.of_widths([3, 2, 1]).rows, ((0, 2),))
        self.assertEqual(Turning.of_widths([4, 1, 3, 2]).rows, ((0, 1), (2, 3)))
        self.assertEqual(Turning.of_widths([1, 4, 2, 3]).rows, ((1, 2), (3, 0)))

    def test_twelve_valleys_and_thirteen(self):
        self.assertEqual(len(Turning.of_widths([0, 1] * 12)), 12)
        self.refused(BadRows, -1, Turning.of_widths, [0, 1] * 13)
        self.refused(BadRows, -1, Turning.of_widths, [0, 1] * 180)

    def test_strange_widths(self):
        for widths in NOT_ROWS:
            self.refused(BadRows, -1, Turning.of_widths, widths)
        for width in NOT_INTEGERS:
            self.refused(BadRows, 0, Turning.of_widths, [width, 1, 2])
            self.refused(BadRows, 2, Turning.of_widths, (1, 2, width))

    def test_lengths(self):
        for n in (0, 1, 361, 500):
            self.refused(BadRound, n, Turning.of_widths, list(range(n)))
            self.refused(BadRound, n, Turning.of_widths, (None,) * n)
        self.assertEqual(Turning.of_widths(list(range(360))).around, 360)

    def test_bounds_of_a_width(self):
        self.assertEqual(Turning.of_widths([0, 10 ** 12, 5]).rows, ((1, 0),))
        for width in (-1, 10 ** 12 + 1, HUGE, -HUGE):
            self.refused(BadRows, 1, Turning.of_widths, [3, width, 5])

    def test_equal_neighbours(self):
        self.refused(BadRows, 0, Turning.of_widths, [4, 4])
        self.refused(BadRows, 1, Turning.of_widths, [5, 3, 3, 6])
        self.refused(BadRows, 3, Turning.of_widths, [5, 3, 4, 5])
        self.refused(BadRows, 0, Turning.of_widths, [5, 5, 4, 4, 3, 5])

    def test_bad_widths_come_before_equal_ones(self):
        self.refused(BadRows, 2, Turning.of_widths, [4, 4, -1, 3])
        self.refused(BadRows, 3, Turning.of_widths, [4, 4, 4, True])
        self.refused(BadRows, 0, Turning.of_widths, [1, 1] + [0, 1] * 13)
        self.refused(BadRows, 5, Turning.of_widths, [0, 1, 0, 1, 0, 1, 1] + [0, 1] * 13)

    def test_it_copies_its_widths(self):
        widths = [5, 3, 4, 6, 2, 4]
        turning = Turning.of_widths(widths)
        widths[0] = 0
        self.assertEqual(turning.rows, ((0, 1), (3, 4)))

    def test_deep_values_stay_as_they_are(self):
        for value in DEEP:
            kept = copy.deepcopy(value)
            self.refused(BadRows, 0, Turning.of_widths, [value, value])
            self.assertEqual(value, kept)


if __name__ == "__main__":
    unittest.main()
