"""Points 82 to 89, and points 2 to 7 and 49 as far as they speak of plates."""

import random

from jawturns.errors import BadRows, BadStanding, BadTurn, BadWord
from jawturns.plates import Plate
from tests.helpers import DEEP, HUGE, NOT_INTEGERS, NOT_ROWS, NOT_WORDS, Case
from tests.plate_samples import (BOX, EIGHT, FAR, RIGHT, SQUARE, STAR, TRIANGLE, TWELVE, random_corners, random_direction,
                                 sample_plates)
from tests.slow_plates import SlowPlate, angle, div, middle, mul, slow_ascending
from tests.test_directions import LONG, NOT_DIRECTIONS

NOT_PLACES = [None, True, 3, HUGE, 2.5, "", "ab", [], [1, 1], (), (1,), (1, 1, 1), (1, None), (None, 1), (1, True),
              (False, 1), (1.0, 1), (1, 1.0), ("1", 1), (1, "1"), ([1], 1), (1, (1,)), ((1, 1),), {}, {1: 1},
              (FAR + 1, 1), (1, FAR + 1), (-FAR - 1, 1), (1, -FAR - 1), (HUGE, 1), (1, -HUGE)] + DEEP


def slow(plate):
    return SlowPlate(plate.corners, plate.centre)


class Making(Case):

    def test_examples_of_the_interface(self):
        plate = Plate([(4, 0), (1, 2), (0, 0)], (2, 1))
        self.assertEqual([plate.corners, plate.words, plate.turnings, plate.rests("push"), plate.tops("push")],
                         [((0, 0), (4, 0), (1, 2)), ["push", "squeeze"], 1, [(1, 0), (-1, 2), (-3, -2)],
                          [(1, 2), (-1, 1), (1, -2)]])
        self.assertEqual([plate.settled((1, 1), ("squeeze", (1, 0))), plate.settled((0, 1), ("squeeze", (1, 0))),
                          plate.settled((5, 0), ("push", (0, 1))), plate.width((3, 2))],
                         [(3, 2), (-1, 2), (2, -3), (64, 13)])

    def test_corners_and_centre(self):
        for many in (3, 4, 12):
            corners = random_corners(random.Random(82), many, 1000)
            first = corners.index(min(corners))
            for at in range(many):
                row = corners[at:] + corners[:at]
                plate = Plate(corners=row, centre=None)
                self.assertEqual(plate.corners, tuple(corners[first:] + corners[:first]))
                self.assertEqual(Plate(tuple(row)), plate)
                self.assertEqual({name: value for name, value in vars(plate).items() if name[0] != "_"},
                                 {"corners": plate.corners, "centre": None, "turnings": plate.turnings})
        self.assertEqual(Plate(BOX).centre, None)
        self.assertEqual(Plate([(0, 0), (4, 0), (4, 2), (0, 2)], (1, 1)).centre, (1, 1))

    def test_a_copy_is_kept(self):
        row = list(TRIANGLE)
        plate = Plate(row)
        row[0] = (9, 9)
        row.append((1, 1))
        self.assertEqual(plate, Plate(TRIANGLE))
        for told in (plate.words, plate.rests("squeeze"), plate.tops("squeeze")):
            told.clear()
        self.assertEqual([plate.words, len(plate.rests("squeeze")), len(plate.tops("squeeze"))], [["squeeze"], 6, 6])

    def test_words_are_only_read(self):
        with self.assertRaises(AttributeError):
            Plate(TRIANGLE).words = ["push"]

    def test_equality(self):
        one = Plate(TRIANGLE)
        for other in (Plate(TRIANGLE[1:] + TRIANGLE[:1]), Plate(tuple(TRIANGLE), None), one.moved(3, 4).moved(-3, -4)):
            self.assertTrue(one == other)
            self.assertFalse(one != other)
        for other in (Plate(RIGHT), Plate(TRIANGLE, (1, 1)), one.moved(1, 0), one.scaled(2), one.quarter(), one.mirrored()):
            self.assertFalse(one == other)
            self.assertTrue(one != other)
        self.assertTrue(Plate(TRIANGLE, (1, 1)) == Plate(TRIANGLE, (1, 1)))
        self.assertTrue(Plate(TRIANGLE, (1, 1)) != Plate(TRIANGLE, (2, 1)))

    def test_not_3_to_12_things(self):
        for corners in NOT_ROWS + [[], (), TRIANGLE[:2], [None] * 2, [None] * 13, TWELVE + [(1, 1)], (None,) * 20]:
            self.refused(BadRows, -1, Plate, corners, "centre")

    def test_not_corners(self):
        for value in NOT_PLACES:
            self.refused(BadRows, 0, Plate, [value, (4, 0), None], "centre")
            self.refused(BadRows, 2, Plate, (*TRIANGLE[:2], value), "centre")
            # Also where an earlier corner is no left turn.
            self.refused(BadRows, 3, Plate, [(0, 0), (0, 0), (0, 0), value], "centre")

    def test_far_corners(self):
        plate = Plate([(-FAR, -FAR), (FAR, -FAR), (FAR, FAR), (-FAR, FAR)], (FAR - 1, 1 - FAR))
        self.assertEqual(plate.corners[0], (-FAR, -FAR))
        for at, place in ((0, (-FAR - 1, -FAR)), (1, (FAR, -FAR - 1)), (2, (FAR + 1, FAR)), (3, (-FAR, FAR + 1))):
            corners = list(plate.corners)
            corners[at] = place
            self.refused(BadRows, at, Plate, corners, "centre")

    def test_no_left_turns(self):
        # Straight on, to the right, back, and corners that are the same.
        self.refused(BadRows, 1, Plate, [(0, 0), (2, 0), (4, 0), (1, 2)], "centre")
        self.refused(BadRows, 0, Plate, TRIANGLE[::-1], "centre")
        self.refused(BadRows, 2, Plate, [(0, 0), (4, 0), (2, 1), (2, 4)], "centre")
        self.refused(BadRows, 0, Plate, [(2, 0), (4, 0), (1, 2), (0, 0)], "centre")
        self.refused(BadRows, 3, Plate, [(0, 0), (4, 0), (4, 4), (2, 2)][:3] + [(2, 2)], "centre")
        self.refused(BadRows, 0, Plate, [(0, 0), (0, 0), (4, 0), (1, 2)], "centre")
        self.refused(BadRows, 1, Plate, [(0, 0), (4, 0), (4, 0), (1, 2)], "centre")
        self.refused(BadRows, 0, Plate, [(0, 0), (1, 0), (2, 0)], "centre")
        self.refused(BadRows, 0, Plate, [(0, 0), (4, 0), (1, 2), (0, 0)], "centre")

    def test_a_left_turn_by_a_hair(self):
        self.assertEqual(len(Plate([(-FAR, 0), (0, -1), (FAR, 0), (0, FAR)]).corners), 4)
        self.refused(BadRows, 1, Plate, [(-FAR, 0), (0, 0), (FAR, 0), (0, FAR)])
        self.refused(BadRows, 1, Plate, [(-FAR, 0), (0, 1), (FAR, 0), (0, FAR)])

    def test_stars(self):
        for at in range(5):
            self.refused(BadRows, -1, Plate, STAR[at:] + STAR[:at], "centre")
        # A polygon that goes around twice: a triangle within another one.
        self.refused(BadRows, -1, Plate, [(0, 0), (40, 0), (10, 20), (3, 1), (30, 2), (12, 12)], "centre")
        seven = [(100, 0), (-90, 43), (62, -78), (-22, 97), (-22, -97), (62, 78), (-90, -43)]
        self.refused(BadRows, -1, Plate, seven)

    def test_not_centres(self):
        outside = [(0, 0), (4, 0), (1, 2), (2, 0), (1, 0), (3, 0), (-1, 0), (5, 0), (2, 2), (0, 1), (2, -1), (HUGE, 0)]
        for value in NOT_PLACES + outside:
            if value is not None:
                self.refused(BadStanding, value, Plate, TRIANGLE, value)
        # On an edge, and next to it on both sides.
        wide = [(0, 0), (8, 0), (8, 8), (0, 8)]
        for value in ((4, 0), (8, 4), (4, 8), (0, 4), (8, 8), (0, 0), (9, 4), (4, -1)):
            self.refused(BadStanding, value, Plate, wide, value)
        for value in ((4, 1), (7, 4), (4, 7), (1, 4), (7, 7), (1, 1)):
            self.assertEqual(Plate(wide, value).centre, value)
        long = [(0, 0), (6, 3), (0, 4)]
        self.refused(BadStanding, (4, 2), Plate, long, (4, 2))
        self.assertEqual(Plate(long, (3, 2)).centre, (3, 2))


class Valleys(Case):

    def test_examples_of_the_document(self):
        plate = Plate(TRIANGLE)
        self.assertEqual(plate.rests("squeeze"), [(1, 0), (3, 2), (-1, 2), (-1, 0), (-3, -2), (1, -2)])
        self.assertEqual(plate.tops("squeeze"), [(2, 1), (0, 1), (-2, 3), (-2, -1), (0, -1), (2, -3)])
        self.assertEqual(Plate(RIGHT).rests(word="squeeze"), [(1, 1), (-1, -1)])
        self.assertEqual(Plate(RIGHT).tops(word="squeeze"), [(-1, 1), (1, -1)])

    def test_by_heights(self):
        many = {1: 0, 2: 0}
        for plate in sample_plates(83, 12, 60):
            told = slow(plate)
            self.assertEqual(plate.words, told.words)
            for word in plate.words:
                self.assertEqual(plate.rests(word), told.valleys[word])
                self.assertEqual(plate.tops(word), told.peaks[word])
                self.assertEqual(len(plate.rests(word)), len(plate.tops(word)))
                many[min(2, len(plate.rests(word)))] += 1
                for row in (plate.rests(word), plate.tops(word)):
                    self.assertEqual(row, slow_ascending(row))
        self.assertGreater(many[2], 60)

    def test_level_directions_that_are_no_valleys(self):
        # Along the edges of the legs the height goes on falling or rising; so it does for a centre far off.
        plate = Plate(RIGHT)
        self.assertEqual([plate.settled(d, ("squeeze", (1, 0))) for d in ((1, 0), (0, 1), (-1, 0), (0, -1))],
                         [(1, 1), (1, 1), (-1, -1), (-1, -1)])
        lean = Plate([(0, 0), (4, 0), (9, 4), (5, 4)], (7, 3))
        self.assertEqual(lean.rests("push"), slow(lean).valleys["push"])
        self.assertNotIn((1, 0), lean.rests("push"))

    def test_one_top(self):
        # A long thin plate with the centre near its heavy end has few rests.
        found = [plate for plate in sample_plates(84, 5, 300, 30) if "push" in plate.words and len(plate.tops("push")) == 1]
        corners = [(0, 0), (20, -2), (21, 0), (20, 2)]
        for plate in found + [Plate(corners, (1, 0)), Plate(corners, (19, 0))]:
            told = slow(plate)
            self.assertEqual([plate.rests("push"), plate.tops("push")], [told.valleys["push"], told.peaks["push"]])
            for d in [(1, 0), (0, 1), (-5, 2), (-1, -1)] + plate.tops("push"):
                self.assertEqual(plate.settled(d, ("push", (2, 4))), told.settled(d, ("push", (2, 4))))
                if len(plate.tops("push")) == 1:
                    self.assertEqual(plate.settled(d, ("push", (1, 0))), plate.rests("push")[0])

    def test_the_valleys_of_a_centre_on_a_diagonal(self):
        # From a corner the arrow to the centre may be the very normal of an edge.
        plate = Plate([(0, 0), (4, 0), (4, 4), (0, 4)], (2, 2))
        self.assertEqual(plate.rests("push"), [(1, 0), (0, 1), (-1, 0), (0, -1)])
        self.assertEqual(plate.tops("push"), [(1, 1), (-1, 1), (-1, -1), (1, -1)])
        edge = Plate([(0, 0), (4, 0), (4, 4), (0, 4)], (1, 1)), Plate([(1, 0), (3, 0), (4, 4), (0, 4)], (3, 3))
        for plate in edge:
            self.assertEqual(plate.rests("push"), slow(plate).valleys["push"])
        # The centre lies straight above the corner (4, 0): no valley at (1, 0), where the slope is 0 on one side.
        plate = Plate([(0, 0), (4, 0), (6, 3), (3, 6), (0, 4)], (4, 3))
        self.assertEqual([plate.rests("push"), plate.tops("push")], [slow(plate).valleys["push"], slow(plate).peaks["push"]])
        self.assertNotIn((1, 0), plate.rests("push"))

    def test_strange_words(self):
        for plate in (Plate(TRIANGLE), Plate(TRIANGLE, (1, 1))):
            for word in NOT_WORDS + ["push"][len(plate.words) - 1:]:
                self.refused(BadWord, word, plate.rests, word)
                self.refused(BadWord, word, plate.tops, word)
                self.refused(BadWord, word, plate.settled, None, (word, None))

    def test_far_plates(self):
        plate = Plate([(-FAR, -FAR), (FAR, -FAR + 1), (FAR - 3, FAR), (7, FAR - 1)], (5, 7 - FAR))
        told = slow(plate)
        for word in plate.words:
            self.assertEqual([plate.rests(word), plate.tops(word)], [told.valleys[word], told.peaks[word]])


class Settling(Case):

    def test_by_heights(self):
        chance = random.Random(85)
        for plate in sample_plates(86, 8, 30):
            told = slow(plate)
            for word in plate.words:
                row = slow_ascending(plate.rests(word) + plate.tops(word))
                inside = [middle(row[at - 1], row[at]) for at in range(len(row))]
                for d in row + inside + [random_direction(chance, 99) for _ in range(5)]:
                    self.assertEqual(plate.settled(d, (word, (1, 0))), told.falls(word, d))
                    a = random_direction(chance, 9)
                    k = chance.randint(1, 3)
                    u = mul(d, a)
                    self.assertEqual(plate.settled(standing=(u[0] * k, u[1] * k), deed=(word, a)), mul(told.falls(word, d), a))

    def test_tops_go_counterclockwise_and_valleys_stay(self):
        for plate in sample_plates(87, 12, 30):
            for word in plate.words:
                rests, tops = plate.rests(word), plate.tops(word)
                for valley in rests:
                    self.assertEqual(plate.settled(valley, (word, (5, 0))), valley)
                for at, top in enumerate(tops):
                    valley = plate.settled(top, (word, (5, 0)))
                    behind = tops[(at + 1) % len(tops)]
                    self.assertTrue(angle(div(valley, top)) < angle(div(behind, top)) or len(tops) == 1)

    def test_long_directions(self):
        plate = Plate(TRIANGLE, (2, 1))
        self.assertEqual(plate.settled((LONG, LONG), ("squeeze", (LONG, 0))), (3, 2))
        # A hair before a top and behind it.
        self.assertEqual(plate.settled((0, 1), ("squeeze", (1, 0))), (-1, 2))
        self.assertEqual(plate.settled((1, LONG), ("squeeze", (1, 0))), (3, 2))
        self.assertEqual(plate.settled((-1, LONG), ("squeeze", (1, 0))), (-1, 2))
        self.assertEqual(plate.settled((1, 0), ("squeeze", (LONG, 1))), (LONG, 1))
        self.assertEqual(plate.settled((LONG, 1), ("push", (LONG, 1))), (LONG, 1))

    def test_errors_in_order(self):
        plate = Plate(TRIANGLE)
        for word in NOT_WORDS + ["push"]:
            self.refused(BadWord, word, plate.settled, None, (word, None))
        for value in NOT_DIRECTIONS:
            self.refused(BadTurn, value, plate.settled, None, ("squeeze", value))
            self.refused(BadStanding, value, plate.settled, value, ("squeeze", (1, 0)))


class Widths(Case):

    def test_by_heights(self):
        chance = random.Random(88)
        for plate in sample_plates(89, 12, 30):
            told = slow(plate)
            for d in plate.rests("squeeze") + [random_direction(chance, 50) for _ in range(8)]:
                height = told.height("squeeze", d)
                found = plate.width(u=d)
                self.assertEqual(found, (height.numerator, height.denominator))
                self.assertIs(type(found), tuple)
                self.assertEqual(plate.width((d[0] * 6, d[1] * 6)), found)

    def test_some(self):
        self.assertEqual([Plate(BOX).width(d) for d in ((1, 0), (0, 3), (-1, 0), (1, 1))], [(1, 1), (4, 1), (1, 1), (9, 2)])
        top, bottom = Plate(BOX).width((LONG, 1))
        self.assertEqual((top, bottom), ((LONG + 2) ** 2, LONG ** 2 + 1))

    def test_strange_values(self):
        for value in NOT_DIRECTIONS:
            self.refused(BadStanding, value, Plate(BOX).width, value)


class OwnTurnings(Case):

    def test_told_ones(self):
        # Corners and centre, and how many own turnings there are.
        for corners, centre, many in ((TRIANGLE, None, 2), (RIGHT, None, 2), (BOX, None, 2), (SQUARE, None, 4),
                                      (EIGHT, None, 8), (SQUARE, (1, 1), 1), (EIGHT, (0, 0), 8), (EIGHT, (1, 0), 1),
                                      ([(0, 0), (4, 0), (4, 4), (0, 4)], (2, 2), 4), (TRIANGLE, (1, 1), 1),
                                      ([(0, 0), (4, 0), (4, 2), (0, 2)], (2, 1), 2), (TWELVE, None, 2)):
            self.assertEqual([Plate(corners, centre).turnings, slow(Plate(corners, centre)).turnings], [many, many])

    def test_by_definition(self):
        chance = random.Random(90)
        found = {1: 0, 2: 0, 4: 0, 8: 0}
        for plate in sample_plates(91, 10, 40, 12):
            told = slow(plate)
            self.assertEqual(plate.turnings, told.turnings)
            self.assertTrue(plate.centre is not None or plate.turnings > 1)
            found[plate.turnings] += 1
            for d in told.own():
                for word in plate.words:
                    u = random_direction(chance)
                    self.assertEqual(plate.settled(mul(u, d), (word, (1, 0))), mul(plate.settled(u, (word, (1, 0))), d))
        self.assertGreater(min(found.values()), 1)

    def test_the_tops_count_too(self):
        # The valleys alone look as if a quarter of a round were an own turning.
        plate = Plate([(0, 0), (8, 0), (8, 4), (0, 4)])
        self.assertEqual([plate.rests("squeeze"), plate.turnings], [[(1, 0), (0, 1), (-1, 0), (0, -1)], 2])


class Changed(Case):

    def test_moved(self):
        for plate in sample_plates(92, 8, 20):
            for x, y in ((0, 0), (5, -7), (-1000, 1000)):
                other = plate.moved(x=x, y=y)
                self.assertEqual(other.corners, tuple([(p + x, q + y) for p, q in plate.corners]))
                self.assertEqual(other.centre, None if plate.centre is None else (plate.centre[0] + x, plate.centre[1] + y))
                self.same_falls(plate, other)
        for value in NOT_INTEGERS:
            self.refused(BadTurn, value, Plate(BOX).moved, value, None)
            self.refused(BadTurn, value, Plate(BOX).moved, HUGE, value)

    def test_moved_too_far(self):
        plate = Plate(BOX)
        self.assertEqual(plate.moved(FAR - 2, FAR - 1).corners[2], (FAR, FAR))
        self.assertEqual(plate.moved(-FAR, -FAR).corners[0], (-FAR, -FAR))
        # The first corner in plate.corners that lies beyond.
        self.assertEqual(plate.corners, ((0, 0), (2, 0), (2, 1), (0, 1)))
        self.refused(BadRows, 1, plate.moved, FAR - 1, 0)
        self.refused(BadRows, 2, plate.moved, 0, FAR)
        self.refused(BadRows, 0, plate.moved, 0, -FAR - 1)
        self.refused(BadRows, 0, plate.moved, HUGE, -HUGE)
        self.refused(BadRows, 0, plate.moved, FAR + 1, 0)
        turned = Plate(BOX[2:] + BOX[:2])
        self.refused(BadRows, 1, turned.moved, FAR - 1, 0)

    def test_scaled(self):
        for plate in sample_plates(93, 8, 20):
            for k in (1, 2, 1000):
                other = plate.scaled(k=k)
                self.assertEqual(other.corners, tuple([(p * k, q * k) for p, q in plate.corners]))
                self.assertEqual(other.centre, None if plate.centre is None else (plate.centre[0] * k, plate.centre[1] * k))
                self.same_falls(plate, other)
        for value in [0, -1, 1001, HUGE, -HUGE] + NOT_INTEGERS:
            self.refused(BadTurn, value, Plate(BOX).scaled, value)

    def test_scaled_too_far(self):
        self.assertEqual(Plate([(0, 0), (1000, 0), (1000, 1000)]).scaled(1000).corners[1], (FAR, 0))
        plate = Plate([(0, 0), (1000, 0), (1000, 1001)])
        self.assertEqual(plate.scaled(999).corners[2], (999000, 999999))
        self.refused(BadRows, 2, plate.scaled, 1000)
        self.refused(BadRows, 0, Plate([(-1001, 0), (0, 0), (0, 5)]).scaled, 1000)

    def test_quarter(self):
        for plate in sample_plates(94, 8, 20):
            other = plate.quarter()
            self.assertEqual(set(other.corners), {(-y, x) for x, y in plate.corners})
            self.assertEqual(other, Plate([(-y, x) for x, y in plate.corners],
                                          None if plate.centre is None else (-plate.centre[1], plate.centre[0])))
            self.assertEqual(other.turnings, plate.turnings)
            for word in plate.words:
                for call, turned in ((plate.rests, other.rests), (plate.tops, other.tops)):
                    self.assertEqual(turned(word), slow_ascending([div(d, (0, 1)) for d in call(word)]))
            self.assertEqual(other.quarter().quarter().quarter(), plate)

    def test_mirrored(self):
        for plate in sample_plates(95, 8, 20):
            other = plate.mirrored()
            self.assertEqual(set(other.corners), {(-x, y) for x, y in plate.corners})
            self.assertEqual(other, Plate([(-x, y) for x, y in plate.corners[::-1]],
                                          None if plate.centre is None else (-plate.centre[0], plate.centre[1])))
            self.assertEqual([other.turnings, other.mirrored()], [plate.turnings, plate])
            told = slow(other)
            for word in plate.words:
                for call, turned in ((plate.rests, other.rests), (plate.tops, other.tops)):
                    self.assertEqual(turned(word), slow_ascending([(a, -b) for a, b in call(word)]))
                for top in other.tops(word):
                    self.assertEqual(other.settled(top, (word, (1, 0))), told.falls(word, top))

    def same_falls(self, one, other):
        self.assertEqual([one.words, one.turnings], [other.words, other.turnings])
        for word in one.words:
            self.assertEqual([one.rests(word), one.tops(word)], [other.rests(word), other.tops(word)])
            for d in ((3, 1), (-2, 5), (-7, -7), (0, -1)):
                self.assertEqual(one.settled(d, (word, (2, 1))), other.settled(d, (word, (2, 1))))
