"""Points 14 to 19, and points 2 to 7 as far as they speak of parts."""

import unittest
from math import lcm

from jawturns.errors import BadRound, BadRows, BadStanding, BadTurn, BadWord
from jawturns.parts import Part
from jawturns.turnings import Turning
from tests.helpers import (FAR, HUGE, NOT_INTEGERS, NOT_ROWS, NOT_WORDS, Case, sample_evens, sample_rows,
                           slow_lifted, slow_period, table)

EVEN = Turning(12, [(0, 1), (4, 5), (6, 7), (10, 11)])
OTHER_EVEN = Turning(12, [(0, 2), (6, 8)])
ODD = Turning(12, [(3, 4), (8, 1)])
THIRDS = Turning(12, [(0, 1), (4, 5), (8, 9)])
WIDTHS = [5, 4, 3, 4, 5, 6] * 2


def whole_part():
    return Part(EVEN, ODD, WIDTHS)


def sample_parts():
    """Parts with a squeeze, a push or both, with widths and without."""
    found = [Part(push=Turning(around, rows)) for around, rows in sample_rows()]
    for at, even in enumerate(sample_evens()):
        found.append(Part(even))
        half = [(x * 7 + at) % 11 for x in range(even.around // 2)]
        found.append(Part(squeeze=even, widths=half + half))
        for around, rows in sample_rows():
            if around == even.around:
                found.append(Part(even, Turning(around, rows), half + half))
    return found


def slow_settled(part, word, standing, turn):
    turning = part[word]
    return (slow_lifted(part.around, turning.rows, standing - turn) + turn) % part.around


class Making(Case):

    def test_example_of_the_interface(self):
        part = Part(Turning(12, [(0, 1), (4, 5), (6, 7), (10, 11)]))
        self.assertEqual(
            [part.words, part.period, part.rests("squeeze"), part.settled(1, ("squeeze", 4)),
             part.settled(5, ("squeeze", 4))],
            [["squeeze"], 6, [1, 5], 11, 5])

    def test_words_and_turnings(self):
        for part, words in ((Part(EVEN), ["squeeze"]), (Part(push=ODD), ["push"]),
                            (Part(None, ODD), ["push"]), (Part(EVEN, ODD), ["push", "squeeze"]),
                            (whole_part(), ["push", "squeeze"]),
                            (Part(push=ODD, squeeze=EVEN, widths=tuple(WIDTHS)), ["push", "squeeze"])):
            self.assertEqual(part.words, words)
            self.assertEqual(part.around, 12)
            for word in words:
                self.assertEqual(part[word], EVEN if word == "squeeze" else ODD)
            for word in ("push", "squeeze"):
                if word not in words:
                    self.refused(BadWord, word, lambda asked: part[asked], word)

    def test_no_turning_at_all(self):
        self.refused(BadWord, "", Part)
        self.refused(BadWord, "", Part, None, None)
        self.refused(BadWord, "", Part, widths=[1, 2])
        self.refused(BadWord, "", Part, widths="strange")

    def test_rounds_differ(self):
        small = Turning(10, [(0, 0)])
        self.refused(BadRound, 10, Part, EVEN, small)
        self.refused(BadRound, 10, Part, ODD, small, [1])
        self.refused(BadRound, 12, Part, small, EVEN)

    def test_a_squeeze_is_even(self):
        for squeeze in (ODD, THIRDS, Turning(12, [(0, 1), (6, 8)]), Turning(3, [(0, 0)]), Turning(2, [(0, 0)])):
            self.refused(BadRows, -1, Part, squeeze)
            self.refused(BadRows, -1, Part, squeeze, None, [1, None])
            self.assertEqual(Part(push=squeeze).words, ["push"])
        self.refused(BadRows, -1, Part, ODD, EVEN)
        self.assertEqual(Part(Turning(2, [(0, 0), (1, 1)]), widths=[3, 3]).widths, [3, 3])

    def test_widths_want_a_squeeze(self):
        for widths in (WIDTHS, [], [1], [None] * 12, "strange", 0, False):
            self.refused(BadWord, "squeeze", Part, None, ODD, widths)
        self.assertIsNone(Part(push=ODD, widths=None).widths)

    def test_widths_are_a_row_of_the_rounds_length(self):
        for widths in NOT_ROWS:
            if widths is not None:
                self.refused(BadRows, -1, Part, EVEN, None, widths)
        for widths in ([], (), [1] * 11, [1] * 13, (1,) * 6, [None] * 11):
            self.refused(BadRows, -1, Part, EVEN, ODD, widths)

    def test_bounds_of_a_width(self):
        good = [0, 10 ** 12, 3, 3, 4, 5] * 2
        self.assertEqual(Part(EVEN, widths=good).widths, good)
        for width in [-1, 10 ** 12 + 1, HUGE, -HUGE] + NOT_INTEGERS:
            for at in (0, 5, 11):
                widths = list(WIDTHS)
                widths[at] = width
                self.refused(BadRows, at, Part, EVEN, ODD, widths)
                self.refused(BadRows, at, Part, EVEN, None, tuple(widths))

    def test_widths_are_even(self):
        widths = list(WIDTHS)
        widths[9] = 7
        self.refused(BadRows, 3, Part, EVEN, None, widths)
        widths[1] = 7
        self.refused(BadRows, 1, Part, EVEN, None, widths)

    def test_bad_widths_come_before_uneven_ones(self):
        widths = list(WIDTHS)
        widths[0] = 9
        widths[11] = -1
        self.refused(BadRows, 11, Part, EVEN, None, widths)

    def test_widths_need_not_be_those_of_the_turning(self):
        self.assertEqual(Part(EVEN, widths=[4] * 12).widths, [4] * 12)

    def test_it_copies_its_widths(self):
        widths = list(WIDTHS)
        part = Part(EVEN, ODD, widths)
        widths[0] = 99
        widths.append(1)
        self.assertEqual([part.widths, part.width(0)], [WIDTHS, 5])

    def test_returned_lists_belong_to_the_caller(self):
        part = whole_part()
        part.words.append("pull")
        part.widths[0] = 99
        part.rests("push").clear()
        self.assertEqual([part.words, part.widths, part.rests("push")], [["push", "squeeze"], WIDTHS, [1, 4]])
        self.assertEqual(part, whole_part())

    def test_only_read(self):
        part = whole_part()
        for name in ("words", "period", "widths"):
            with self.assertRaises(AttributeError):
                setattr(part, name, [])
        self.assertEqual(part, whole_part())


class Setting(Case):

    def test_put_and_replaced(self):
        part = Part(EVEN)
        part["push"] = ODD
        self.assertEqual([part.words, part["push"], part.period], [["push", "squeeze"], ODD, 12])
        part["push"] = THIRDS
        self.assertEqual([part["push"], part.period], [THIRDS, 12])
        part["squeeze"] = OTHER_EVEN
        self.assertEqual([part["squeeze"], part["push"]], [OTHER_EVEN, THIRDS])
        self.assertEqual(part, Part(OTHER_EVEN, THIRDS))

    def test_a_new_squeeze_keeps_the_widths(self):
        part = whole_part()
        part["squeeze"] = OTHER_EVEN
        self.assertEqual(part, Part(OTHER_EVEN, ODD, WIDTHS))
        self.assertEqual(part.width(2), 3)

    def test_taken_out(self):
        part = whole_part()
        part["push"] = None
        self.assertEqual(part, Part(EVEN, widths=WIDTHS))
        self.assertEqual([part.words, part.period], [["squeeze"], 6])
        self.refused(BadWord, "push", lambda word: part[word], "push")

    def test_with_the_squeeze_the_widths_go(self):
        part = whole_part()
        part["squeeze"] = None
        self.assertEqual([part.words, part.widths], [["push"], None])
        self.assertEqual(part, Part(push=ODD))
        self.refused(BadWord, "squeeze", part.width, 0)
        part["squeeze"] = EVEN
        self.assertIsNone(part.widths)
        self.assertEqual(part, Part(EVEN, ODD))

    def test_none_leaves_a_turning(self):
        self.put_refused(BadWord, "push", Part(push=ODD), "push", None)
        self.put_refused(BadWord, "squeeze", Part(EVEN, widths=WIDTHS), "squeeze", None)

    def test_taking_out_what_is_not_there(self):
        part = Part(push=ODD)
        part["squeeze"] = None
        self.assertEqual(part, Part(push=ODD))
        part = Part(EVEN, widths=WIDTHS)
        part["push"] = None
        self.assertEqual(part, Part(EVEN, widths=WIDTHS))

    def test_strange_words(self):
        for word in NOT_WORDS:
            for turning in (None, EVEN, ODD, Turning(10, [(0, 0)])):
                self.put_refused(BadWord, word, whole_part(), word, turning)
            self.refused(BadWord, word, lambda asked: whole_part()[asked], word)

    def test_other_rounds_and_odd_squeezes(self):
        small = Turning(10, [(0, 0)])
        for word in ("push", "squeeze"):
            self.put_refused(BadRound, 10, whole_part(), word, small)
        self.put_refused(BadRound, 10, Part(push=ODD), "squeeze", small)
        self.put_refused(BadRows, -1, whole_part(), "squeeze", ODD)
        self.put_refused(BadRows, -1, Part(push=ODD), "squeeze", THIRDS)

    def test_the_turning_stays_as_it_is(self):
        part = whole_part()
        turning = part["push"]
        part["push"] = THIRDS
        self.assertEqual([turning, ODD.rows], [ODD, ((3, 4), (8, 1))])


class Deeds(Case):

    def test_settled_by_definition(self):
        for part in sample_parts():
            for word in part.words:
                slow = table(part.around, part[word].rows)
                for turn in FAR:
                    for standing in FAR:
                        self.assertEqual(part.settled(standing, (word, turn)),
                                         (slow(standing - turn) + turn) % part.around)

    def test_settled_everywhere(self):
        part = whole_part()
        for word in part.words:
            for turn in range(-24, 24):
                for standing in range(-24, 24):
                    self.assertEqual(part.settled(standing, (word, turn)),
                                     slow_settled(part, word, standing, turn))

    def test_wrong_words(self):
        for word in NOT_WORDS + ["squeeze"]:
            for turn in (0, None):
                for standing in (0, None):
                    self.refused(BadWord, word, Part(push=ODD).settled, standing, (word, turn))
            self.refused(BadWord, word, Part(push=ODD).rests, word)
        self.refused(BadWord, "push", Part(EVEN).settled, 0, ("push", 0))
        self.refused(BadWord, "push", Part(EVEN).rests, "push")

    def test_wrong_turns_and_standings(self):
        part = whole_part()
        for value in NOT_INTEGERS:
            self.refused(BadTurn, value, part.settled, 0, ("push", value))
            self.refused(BadTurn, value, part.settled, None, ("squeeze", value))
            self.refused(BadStanding, value, part.settled, value, ("push", 0))
            self.refused(BadStanding, value, part.settled, value, ("squeeze", -HUGE))
        self.assertEqual(part, whole_part())


class Periods(Case):

    def test_by_definition(self):
        for part in sample_parts():
            turnings = [part[word] for word in part.words]
            slow = [table(part.around, turning.rows) for turning in turnings]
            self.assertEqual(part.period, slow_period(part.around, slow))
            self.assertEqual(part.period, lcm(*[turning.period for turning in turnings]))

    def test_both_turnings_count(self):
        sixth = Turning(12, [(x * 2, x * 2) for x in range(6)])
        self.assertEqual(Part(sixth, THIRDS).period, 4)
        self.assertEqual(Part(OTHER_EVEN, THIRDS).period, 12)
        self.assertEqual(Part(Turning(2, [(0, 0), (1, 1)])).period, 1)

    def test_rests_below_the_period(self):
        for part in sample_parts():
            for word in part.words:
                rests = sorted(rest for _, rest in part[word].rows)
                self.assertEqual(part.rests(word), [rest for rest in rests if rest < part.period])
        self.assertEqual(Part(EVEN).rests("squeeze"), [1, 5])
        self.assertEqual(Part(EVEN, ODD).rests("squeeze"), [1, 5, 7, 11])
        self.assertEqual(Part(EVEN, ODD).rests("push"), [1, 4])

    def test_turns_a_period_apart_do_the_same(self):
        for part in (Part(EVEN), Part(push=THIRDS), whole_part()):
            for word in part.words:
                for turn in range(12):
                    for standing in range(12):
                        self.assertEqual(part.settled(standing, (word, turn)),
                                         part.settled(standing, (word, turn + part.period)))


class ShownWidths(Case):

    def test_every_place(self):
        part = whole_part()
        self.assertEqual(part.widths, WIDTHS)
        self.assertIs(type(part.widths), list)
        for x in list(range(-30, 30)) + FAR:
            self.assertEqual(part.width(x), WIDTHS[x % 12])

    def test_no_widths(self):
        for part in (Part(EVEN), Part(push=ODD), Part(EVEN, ODD)):
            self.assertIsNone(part.widths)
            for x in [0, HUGE] + NOT_INTEGERS:
                self.refused(BadWord, "squeeze", part.width, x)

    def test_strange_places(self):
        for x in NOT_INTEGERS:
            self.refused(BadStanding, x, whole_part().width, x)


class Moving(Case):

    def test_turned(self):
        for part in sample_parts():
            before = part.copy()
            for c in (0, 1, -1, 7, -5, 12, -360, 361, HUGE, -HUGE):
                moved = part.turned(c)
                self.assertIsInstance(moved, Part)
                self.assertEqual([moved.words, moved.around], [part.words, part.around])
                for word in part.words:
                    self.assertEqual(moved[word], part[word].turned(c))
                if part.widths is None:
                    self.assertIsNone(moved.widths)
                else:
                    self.assertEqual(moved.widths, [part.width(x - c) for x in range(part.around)])
            self.assertEqual(part, before)

    def test_mirrored(self):
        for part in sample_parts():
            before = part.copy()
            mirrored = part.mirrored()
            self.assertIsInstance(mirrored, Part)
            self.assertEqual([mirrored.words, mirrored.around], [part.words, part.around])
            for word in part.words:
                self.assertEqual(mirrored[word], part[word].mirrored())
            if part.widths is None:
                self.assertIsNone(mirrored.widths)
            else:
                self.assertEqual(mirrored.widths, [part.width(-x) for x in range(part.around)])
            self.assertEqual(mirrored.mirrored(), part)
            self.assertEqual(part, before)

    def test_told_ones(self):
        shown = [1, 2, 3, 4, 5, 6] * 2
        self.assertEqual(Part(EVEN, widths=shown).turned(1).widths, [6, 1, 2, 3, 4, 5] * 2)
        self.assertEqual(Part(EVEN, widths=shown).mirrored().widths, [1, 6, 5, 4, 3, 2] * 2)
        self.assertEqual(Part(push=ODD).turned(5), Part(push=Turning(12, [(1, 6), (8, 9)])))

    def test_strange_moves(self):
        for part in (Part(EVEN), Part(push=ODD), whole_part()):
            before = part.copy()
            for c in NOT_INTEGERS:
                self.refused(BadTurn, c, part.turned, c)
            self.assertEqual(part, before)

    def test_what_is_returned_is_a_part_of_its_own(self):
        part = whole_part()
        for other in (part.copy(), part.turned(0), part.mirrored().mirrored()):
            self.assertEqual(other, part)
            other["squeeze"] = None
            self.assertEqual(part, whole_part())
            self.assertNotEqual(other, part)
        other = part.copy()
        part["push"] = None
        self.assertEqual(other, whole_part())

    def test_copies_of_all_samples(self):
        for part in sample_parts():
            other = part.copy()
            self.assertIsNot(other, part)
            self.assertEqual(other, part)
            self.assertEqual([other.words, other.widths, other.around, other.period],
                             [part.words, part.widths, part.around, part.period])


class Equality(Case):

    def test_same_and_unlike_parts(self):
        self.assertTrue(whole_part() == Part(Turning(12, EVEN.rows), Turning(12, ODD.rows), tuple(WIDTHS)))
        self.assertFalse(whole_part() != whole_part())
        unlike = [Part(EVEN), Part(push=EVEN), Part(EVEN, EVEN), Part(EVEN, ODD), Part(push=ODD), whole_part(),
                  Part(EVEN, widths=WIDTHS), Part(EVEN, widths=[1] * 12), Part(OTHER_EVEN), Part(EVEN, THIRDS),
                  Part(Turning(24, [(0, 0), (12, 12)]))]
        for at, one in enumerate(unlike):
            self.assertTrue(one == one.copy())
            for other in unlike[:at]:
                self.assertTrue(one != other)
                self.assertFalse(one == other)


if __name__ == "__main__":
    unittest.main()
