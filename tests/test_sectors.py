"""Points 90 to 94 as far as they speak of arcs and sectors, and points 2 to 7, 49 and 87."""

import random

from jawturns.errors import BadPlan, BadStanding, BadWord
from jawturns.plates import Plate
from jawturns.sectors import arc_behind, arcs_after, first_arcs, sectors
from tests.helpers import DEEP, HUGE, NOT_INTEGERS, NOT_ROWS, NOT_WORDS, Case
from tests.plate_samples import BOX, EIGHT, ONE_REST, SQUARE, TRIANGLE, random_course, random_direction, sample_plates
from tests.slow_plates import SlowPlate, div, middle, mul, slow_ascending, slow_least, slow_within
from tests.test_directions import LONG, NOT_DIRECTIONS

PLATE = Plate(BOX)
BOTH = Plate(TRIANGLE, (2, 1))


def slow(plate):
    return SlowPlate(plate.corners, plate.centre)


def strange_deeds():
    """Values that are no deed and no step of a plate."""
    return [None, True, 3, HUGE, 2.5, "", "squeeze", [], ["squeeze", (1, 0)], (), ("squeeze",), ("squeeze", (1, 0), 0), {},
            {"squeeze": (1, 0)}, ((1, 0), "squeeze"), ("pull", (1, 0)), (None, (1, 0)), (["squeeze"], (1, 0)),
            (("squeeze",), (1, 0)), (True, (1, 0)), ("squeeze", [1, 0]), ("squeeze", 1, 0)] + DEEP + [
                ("squeeze", value) for value in NOT_DIRECTIONS]


def near_arcs(arc):
    """Values that are nearly this arc, and are none."""
    word, low, high = arc
    return [list(arc), arc[:2], arc + (0,), (arc,), [arc], (low, high, word), (None, low, high), ([word], low, high),
            ("pull", low, high), ("", low, high), (word, low, high + HUGE), (word, -1, high), (word, low, low - 1),
            (word, bool(low), high), (word, low, True), (word, False, False), (word, float(low), high),
            (word, low, float(high)), (word, str(low), high), (word, low, None), (word, (low,), high), (word, [low], high),
            (word, HUGE, HUGE), (word, -HUGE, high)]


class PlanCase(Case):

    def plans_checked(self, call, more=()):
        """call(plate, plan) makes the checks of a plate's plan, in their order."""
        for plan in NOT_ROWS + [[("squeeze", (1, 0))] * 401, (None,) * 401]:
            self.refused(BadPlan, -1, call, PLATE, plan)
        good, push = ("squeeze", (2, 4)), ("push", (1, 0))
        for value in strange_deeds():
            self.refused(BadPlan, 0, call, PLATE, [value])
            self.refused(BadPlan, 2, call, PLATE, (push, good, value, None))
        self.refused(BadWord, "push", call, PLATE, [good, push])
        self.refused(BadWord, "push", call, PLATE, (push,))


class First(Case):

    def test_examples_of_the_interface(self):
        self.assertEqual([PLATE.rests("squeeze"), PLATE.turnings, first_arcs(PLATE)],
                         [[(1, 0), (0, 1), (-1, 0), (0, -1)], 2, [("squeeze", 0, 1), ("squeeze", 1, 2)]])
        self.assertEqual(sectors(PLATE, ("squeeze", 0, 1), "squeeze")[:4],
                         [((2, -1), (2, 1), ("squeeze", 0, 1)), ((2, 1), (1, 2), ("squeeze", 0, 0)),
                          ((1, 2), (-1, 2), ("squeeze", 1, 2)), ((-1, 2), (-2, 1), None)])

    def test_by_definition(self):
        turnings = {1: 0, 2: 0, 4: 0, 8: 0}
        for plate in sample_plates(100):
            told = first_arcs(plate=plate)
            self.assertEqual(told, slow(plate).firsts())
            self.assertEqual(told, sorted(told))
            turnings[plate.turnings] += 1
        self.assertGreater(min(turnings.values()), 1)

    def test_it_belongs_to_the_caller(self):
        first_arcs(PLATE).clear()
        sectors(PLATE, ("squeeze", 0, 1), "squeeze").clear()
        self.assertEqual([len(first_arcs(PLATE)), len(sectors(PLATE, ("squeeze", 0, 1), "squeeze"))], [2, 8])


class Behind(Case):

    def test_by_the_two_ends(self):
        chance = random.Random(101)
        found = {"lost": 0, "closed": 0, "open": 0}
        for plate in sample_plates(102, 8, 24):
            told = slow(plate)
            nodes = told.all_nodes()
            for arc in chance.sample(nodes, min(12, len(nodes))):
                for word in plate.words:
                    borders = told.borders(arc, word)
                    for b in chance.sample(borders, min(3, len(borders))) + [random_direction(chance) for _ in range(3)]:
                        behind = arc_behind(plate=plate, arc=arc, step=(word, b))
                        self.assertEqual(behind, told.next_arc(arc, (word, b)))
                        k = chance.randint(1, 5)
                        self.assertEqual(arc_behind(plate, arc, (word, (b[0] * k, b[1] * k))), behind)
                        if behind is None:
                            found["lost"] += 1
                            continue
                        found["closed" if behind[1] == behind[2] else "open"] += 1
                        self.ends_are_carried(plate, arc, (word, b), behind)
        self.assertGreater(min(found.values()), 100)

    def ends_are_carried(self, plate, arc, step, behind):
        """The ends of the next arc, times the step, are where the ends of the arc settle, but for an own turning."""
        row, goals = plate.rests(arc[0]), plate.rests(behind[0])
        offsets = []
        for k, goal in zip(arc[1:], behind[1:]):
            settled = plate.settled(row[k % len(row)], step)
            offsets.append(div(settled, mul(goals[goal % len(goals)], step[1])))
        self.assertEqual(offsets[0], offsets[1])
        self.assertIn(offsets[0], [slow_least(d) for d in slow(plate).own()])

    def test_closed_arcs_are_moved_too_and_stay_closed(self):
        chance = random.Random(103)
        for plate in sample_plates(104, 8, 20):
            for word in plate.words:
                for i in range(slow(plate).m(word)):
                    for v in plate.words:
                        behind = arc_behind(plate, (word, i, i), (v, random_direction(chance)))
                        self.assertEqual([behind[0], behind[1]], [v, behind[2]])

    def test_lost_cuts(self):
        self.assertIsNone(arc_behind(PLATE, ("squeeze", 0, 1), ("squeeze", (-2, 1))))
        self.assertIsNone(arc_behind(PLATE, ("squeeze", 0, 1), ("squeeze", (-3, 2))))

    def test_long_directions(self):
        # A hair behind the top (1, 2), and on it.
        arc = ("squeeze", 0, 1)
        self.assertEqual(arc_behind(PLATE, arc, ("squeeze", (LONG, 2 * LONG))), ("squeeze", 0, 0))
        self.assertEqual(arc_behind(PLATE, arc, ("squeeze", (LONG, 2 * LONG + 1))), ("squeeze", 1, 2))
        self.assertEqual(arc_behind(PLATE, arc, ("squeeze", (2 * LONG, LONG - 1))), ("squeeze", 0, 1))
        self.assertEqual(arc_behind(PLATE, arc, ("squeeze", (2 * LONG, LONG))), ("squeeze", 0, 1))
        self.assertEqual(arc_behind(PLATE, arc, ("squeeze", (2 * LONG, LONG + 1))), ("squeeze", 0, 0))

    def test_errors_in_order(self):
        for arc in near_arcs(("squeeze", 0, 1)) + [("push", 0, 0), ("squeeze", 0, 2), ("squeeze", 2, 3)] + NOT_INTEGERS + [3]:
            self.refused(BadStanding, arc, arc_behind, PLATE, arc, None)
            self.refused(BadStanding, arc, sectors, PLATE, arc, None)
        for step in strange_deeds() + [("push", (1, 0))]:
            self.refused(BadPlan, 0, arc_behind, PLATE, ("squeeze", 0, 1), step)
        for word in NOT_WORDS + ["push"]:
            self.refused(BadWord, word, sectors, PLATE, ("squeeze", 0, 1), word)

    def test_which_arcs_there_are(self):
        for plate in sample_plates(105, 6, 16):
            told = slow(plate)
            right = told.all_nodes()
            for word in ("push", "squeeze"):
                for i in range(-1, 8):
                    for j in range(-1, 14):
                        if (word, i, j) in right:
                            arc_behind(plate, (word, i, j), ("squeeze", (1, 2)))
                        else:
                            self.refused(BadStanding, (word, i, j), arc_behind, plate, (word, i, j), ("squeeze", (1, 2)))


class Sectors(Case):

    def test_by_definition(self):
        chance = random.Random(106)
        single = 0
        for plate in sample_plates(107, 8, 20):
            told = slow(plate)
            for arc in told.all_nodes():
                for word in plate.words:
                    found = sectors(plate=plate, arc=arc, word=word)
                    self.assertEqual(found, told.sectors(arc, word))
                    self.assertEqual([high for _, high, _ in found], told.borders(arc, word))
                    single += len(found) == 1
                    # In all of a sector the step does the same; high belongs to it, and low does not.
                    for low, high, goal in chance.sample(found, min(2, len(found))):
                        for b in (high, middle(low, high), middle(middle(low, high), high), middle(low, middle(low, high))):
                            self.assertEqual(arc_behind(plate, arc, (word, b)), goal)
                            self.assertTrue(slow_within(b, low, high))
        self.assertGreater(single, 0)

    def test_sectors_of_a_single_border(self):
        plate = Plate(*ONE_REST)
        [valley], [top] = plate.rests("push"), plate.tops("push")
        border = div(valley, top)
        self.assertEqual(sectors(plate, ("push", 0, 0), "push"), [(border, border, ("push", 0, 0))])
        self.assertEqual(arc_behind(plate, ("push", 0, 0), ("push", (7, 7))), ("push", 0, 0))
        # One top and several rests: each sector but a closed one loses the cut or not as the top tells.
        for arc in first_arcs(plate):
            self.assertEqual(sectors(plate, arc, "push"), slow(plate).sectors(arc, "push"))

    def test_sectors_of_closed_arcs(self):
        for arc in (("squeeze", 0, 0), ("squeeze", 1, 1)):
            found = sectors(PLATE, arc, "squeeze")
            self.assertEqual([goal[1] == goal[2] for _, _, goal in found], [True] * 4)
            self.assertEqual([high for _, high, _ in found], slow_ascending([div(PLATE.rests("squeeze")[arc[1]], top)
                                                                             for top in PLATE.tops("squeeze")]))


class After(PlanCase):

    def test_by_definition(self):
        chance = random.Random(108)
        found = {"lost": 0, "closed": 0, "open": 0}
        for plate in sample_plates(109, 8, 30):
            told = slow(plate)
            for many in (1, 2, 3, 5):
                plan = random_course(chance, plate, many)
                arcs = [(plan[0][0], i, i + told.m(plan[0][0]) - 1) for i in range(told.m(plan[0][0]))]
                for (_, a), (word, b) in zip(plan, plan[1:]):
                    arcs = [None if arc is None else told.next_arc(arc, (word, div(b, a))) for arc in arcs]
                self.assertEqual(arcs_after(plate=plate, plan=plan), arcs)
                self.assertEqual(arcs_after(plate, tuple(plan)), arcs)
                for arc in arcs:
                    found["lost" if arc is None else "closed" if arc[1] == arc[2] else "open"] += 1
                # A plan comes right exactly if one of its cuts is closed.
                self.assertIs(any(arc is not None and arc[1] == arc[2] for arc in arcs), told.right(plan))
        self.assertGreater(min(found.values()), 10)

    def test_one_deed_and_none(self):
        for plate in (PLATE, BOTH, Plate(SQUARE), Plate(EIGHT, (0, 0))):
            self.assertEqual(arcs_after(plate, []), [])
            self.assertEqual(arcs_after(plate, ()), [])
            for word in plate.words:
                told = [arc for arc in first_arcs(plate) if arc[0] == word]
                self.assertEqual(arcs_after(plate, [(word, (-3, 6))]), told)

    def test_400_deeds(self):
        chance = random.Random(110)
        plan = [("squeeze", random_direction(chance)) for _ in range(400)]
        self.assertEqual(len(arcs_after(PLATE, plan)), 2)
        self.refused(BadPlan, -1, arcs_after, PLATE, plan + [("squeeze", (1, 0))])

    def test_checks(self):
        self.plans_checked(arcs_after)
