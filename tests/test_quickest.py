"""Points 87 and 94 to 96, and points 2 to 7 and 49 as far as they speak of quickest plans."""

import copy
import random
from unittest import mock

from jawturns.errors import TooMany
from jawturns.plates import Plate
from jawturns.quickest import (comes_right, end_standing, is_quick_paper, least_deeds, quick_paper, quickest,
                               standings_left)
from jawturns.sectors import first_arcs, sectors
from tests.helpers import DEEP, HUGE, NOT_INTEGERS
from tests.plate_samples import BOX, EIGHT, SHORT_OF_ONE, SQUARE, TRIANGLE, random_course, random_direction, sample_plates
from tests.slow import come_to, judged_paper, slow_paper
from tests.slow_plates import SlowPlate, middle, mul, slow_ascending, slow_least
from tests.test_sectors import PlanCase, near_arcs
from tests.test_shortest import spoilt_papers

PLATE = Plate(BOX)
PLAN = [("squeeze", (1, 0)), ("squeeze", (2, 4))]


def slow(plate):
    return SlowPlate(plate.corners, plate.centre)


def slow_least_deeds(plate, most=4):
    """The least number of deeds by a search over all sets of rests, or None if it is more than most."""
    told = slow(plate)
    waiting = {(word, tuple(told.valleys[word])) for word in plate.words}
    for number in range(1, most + 1):
        if any(len(rests) == plate.turnings for _, rests in waiting):
            return number
        behind = set()
        for _, rests in sorted(waiting):
            for word in plate.words:
                borders = slow_ascending([mul(rest, (a, -b)) for rest in rests for a, b in told.peaks[word]])
                for at, high in enumerate(borders):
                    for b in (high, middle(borders[at - 1], high)):
                        standings = [told.falls(word, mul(rest, (b[0], -b[1]))) for rest in rests]
                        behind.add((word, tuple(slow_ascending(standings))))
        waiting = behind
    return None


class Quickest(PlanCase):

    def test_examples_of_the_interface(self):
        self.assertEqual([least_deeds(PLATE), comes_right(PLATE, PLAN), standings_left(PLATE, PLAN),
                          end_standing(PLATE, PLAN)], [2, True, [(1, 2), (-1, -2)], (1, 2)])
        self.assertEqual(quick_paper(PLATE), {("squeeze", 0, 1): 1, ("squeeze", 1, 2): 1})

    def test_against_a_search_over_all_rests(self):
        found = {1: 0, 2: 0, 3: 0, None: 0}
        for plate in sample_plates(120, 5, 34, 12):
            number = slow_least_deeds(plate, 3)
            if number is None:
                self.assertGreater(least_deeds(plate), 3)
            else:
                self.assertEqual(least_deeds(plate=plate), number)
            found[number] += 1
        self.assertGreater(min(found.values()), 1)

    def test_against_a_search_over_all_arcs(self):
        for plate in sample_plates(121, 8, 26):
            waiting = first_arcs(plate)
            number = 1
            seen = set(waiting)
            while not any(arc[1] == arc[2] for arc in waiting):
                behind = {goal for arc in waiting for word in plate.words for _, _, goal in sectors(plate, arc, word)}
                waiting = [arc for arc in behind if arc is not None and arc not in seen]
                seen.update(waiting)
                number += 1
            self.assertEqual(least_deeds(plate), number)

    def test_the_plan(self):
        lengths = set()
        for plate in sample_plates(122, 12, 40):
            plan = quickest(plate=plate)
            self.assertIs(type(plan), tuple)
            self.assertEqual(len(plan), least_deeds(plate))
            self.assertEqual(plan[0][1], (1, 0))
            self.assertEqual([type(deed) for deed in plan], [tuple] * len(plan))
            self.assertEqual([slow_least(d) for _, d in plan], [d for _, d in plan])
            self.assertIs(comes_right(plate, plan), True)
            self.assertIs(slow(plate).right(plan), True)
            self.assertIs(comes_right(plate, plan[:-1]), False)
            # The numbers of its directions may be handed in again, however long they are.
            self.assertEqual(standings_left(plate, plan + plan), slow(plate).left(plan + plan))
            lengths.add(len(plan))
        self.assertGreater(len(lengths), 4)

    def test_400_deeds_and_one_more(self):
        # A plate that needs so many deeds was not found; the limit itself is lowered instead.
        for plate in (PLATE, Plate(TRIANGLE, (2, 1)), Plate(EIGHT)):
            number = least_deeds(plate)
            with mock.patch("jawturns.quickest.MOST_DEEDS", number):
                self.assertEqual(len(quickest(plate)), number)
            with mock.patch("jawturns.quickest.MOST_DEEDS", number - 1):
                self.refused(TooMany, number - 1, quickest, plate)
                self.assertEqual([least_deeds(plate), is_quick_paper(plate, number, quick_paper(plate))], [number, True])

    def test_one_deed(self):
        plates = [plate for plate in sample_plates(123, 5, 200, 30) if least_deeds(plate) == 1]
        self.assertGreater(len(plates), 0)
        for plate in plates:
            [(word, direction)] = quickest(plate)
            self.assertEqual([direction, len(plate.rests(word))], [(1, 0), plate.turnings])
            told = quick_paper(plate)
            self.assertEqual(set(told.values()) - {0}, set())
            self.assertIs(is_quick_paper(plate, 1, told), True)
            self.assertIs(is_quick_paper(plate, 2, told), False)


class Left(PlanCase):

    def test_by_definition(self):
        chance = random.Random(124)
        found = {True: 0, False: 0}
        for plate in sample_plates(125, 8, 40):
            told = slow(plate)
            for many in (1, 2, 3, 6):
                plan = random_course(chance, plate, many)
                left = told.left(plan)
                self.assertEqual(standings_left(plate=plate, plan=plan), left)
                self.assertEqual(standings_left(plate, tuple(plan)), left)
                right = told.right(plan)
                self.assertIs(comes_right(plate=plate, plan=plan), right)
                self.assertEqual(end_standing(plate=plate, plan=plan), left[0] if right else None)
                self.assertEqual(len(left) == plate.turnings, right)
                found[right] += 1
        self.assertGreater(min(found.values()), 20)

    def test_the_empty_plan(self):
        for plan in ([], ()):
            self.assertEqual([standings_left(PLATE, plan), comes_right(PLATE, plan), end_standing(PLATE, plan)],
                             [None, False, None])

    def test_plates_with_all_numbers_of_turnings(self):
        for plate, many in ((Plate(TRIANGLE, (2, 1)), 1), (PLATE, 2), (Plate(SQUARE), 4), (Plate(EIGHT), 8)):
            plan = quickest(plate)
            left = standings_left(plate, plan)
            self.assertEqual([plate.turnings, len(left), end_standing(plate, plan)], [many, many, left[0]])
            self.assertEqual(left, slow_ascending([mul(left[0], d) for d in slow(plate).own()]))

    def test_a_right_plan_stays_right(self):
        chance = random.Random(126)
        for plate in sample_plates(127, 8, 20):
            plan = list(quickest(plate)) + random_course(chance, plate, 3)
            for many in range(least_deeds(plate), len(plan) + 1):
                self.assertIs(comes_right(plate, plan[:many]), True)

    def test_400_deeds(self):
        chance = random.Random(128)
        plan = []
        last = (1, 0)
        for _ in range(400):
            last = mul(last, random_direction(chance, 10 ** 9))
            plan.append(("squeeze", last))
        plate = Plate(TRIANGLE)
        told = slow(plate)
        self.assertEqual(standings_left(plate, plan[:60]), told.left(plan[:60]))
        self.assertIs(comes_right(plate, plan), len(standings_left(plate, plan)) == 2)

    def test_checks(self):
        for call in (standings_left, comes_right, end_standing):
            self.plans_checked(call)

    def test_nothing_is_changed(self):
        plan = list(PLAN)
        first = [standings_left(PLATE, plan), quick_paper(PLATE), quickest(PLATE)]
        standings_left(PLATE, plan).clear()
        quick_paper(PLATE).clear()
        told = quick_paper(PLATE)
        kept = copy.deepcopy(told)
        is_quick_paper(PLATE, 2, told)
        self.assertEqual([standings_left(PLATE, plan), quick_paper(PLATE), quickest(PLATE)], first)
        self.assertEqual([plan, told], [PLAN, kept])


class Papers(PlanCase):

    def test_the_returned_one(self):
        for plate in sample_plates(129, 7, 20):
            told = quick_paper(plate=plate)
            least = least_deeds(plate)
            self.assertEqual(told, slow_paper(slow(plate), least))
            self.assertEqual(list(told), sorted(told))
            self.assertEqual(list(told), [arc for arc in come_to(slow(plate)) if arc[1] != arc[2]])
            self.assertIs(is_quick_paper(plate, least, told), True)
            self.assertIs(is_quick_paper(plate, least + 1, told), False)

    def test_spoilt_ones(self):
        chance = random.Random(130)
        good = bad = 0
        for plate in sample_plates(131, 5, 16):
            told = slow(plate)
            moves = {arc: told.moves(arc) for arc in told.all_nodes()}
            told.moves = lambda arc, moves=moves: moves[arc]
            least = least_deeds(plate)
            for thing in spoilt_papers(chance, quick_paper(plate), told.all_nodes()):
                for length in (least, least - 1, least + 1):
                    right = judged_paper(told, length, thing)
                    self.assertIs(is_quick_paper(plate, length, thing), right, (plate.corners, length, thing))
                    good += right
                    bad += not right
        self.assertGreater(good, 100)
        self.assertGreater(bad, 1000)

    def test_arcs_that_are_not_come_to(self):
        # Further keys may stand in a paper if they are right themselves.
        plate = Plate(SHORT_OF_ONE)
        told, arc, least = quick_paper(plate), ("squeeze", 1, 2), least_deeds(plate)
        self.assertNotIn(arc, told)
        judged = [is_quick_paper(plate, least, {**told, arc: number}) for number in range(4)]
        self.assertEqual(judged, [judged_paper(slow(plate), least, {**told, arc: number}) for number in range(4)])
        self.assertEqual([judged[0], judged[-1]], [True, False])

    def test_papers_by_chance_are_right(self):
        chance = random.Random(133)
        found = 0
        for plate in sample_plates(134, 5, 20):
            arcs = [arc for arc in slow(plate).all_nodes() if arc[1] != arc[2]]
            for _ in range(6):
                thing = {arc: chance.randrange(3) for arc in arcs}
                for length in (1, 2, 3):
                    if is_quick_paper(plate, length, thing):
                        self.assertGreaterEqual(least_deeds(plate), length)
                        found += 1
        self.assertGreater(found, 10)

    def test_lengths_and_strange_things(self):
        told = quick_paper(PLATE)
        self.assertIs(is_quick_paper(plate=PLATE, length=2, thing=told), True)
        self.assertIs(is_quick_paper(PLATE, 1, told), True)
        self.assertIs(is_quick_paper(PLATE, 0, {}), True)
        for length in [-1, 0, 3, HUGE, -HUGE] + NOT_INTEGERS + [2.0, "2"]:
            self.assertIs(is_quick_paper(PLATE, length, told), False)
        for length in [-1, 1, 2, HUGE, False] + NOT_INTEGERS:
            self.assertIs(is_quick_paper(PLATE, length, {}), False)
        for thing in NOT_INTEGERS + [0, list(told), tuple(told.items()), (told,)]:
            self.assertIs(is_quick_paper(PLATE, 2, thing), False)
        for number in NOT_INTEGERS + [-1, 0, 3]:
            self.assertIs(is_quick_paper(PLATE, 2, {key: number for key in told}), False)
        for key in near_arcs(("squeeze", 0, 1)) + [("squeeze", 0, 0), ("squeeze", 1, 1), ("push", 0, 1), DEEP[1]]:
            try:
                thing = {**told, key: 0}
            except TypeError:
                continue
            self.assertIs(is_quick_paper(PLATE, 2, thing), len(thing) == 2 and thing == told)
