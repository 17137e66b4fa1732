"""What a bolt needs, whether it is met, and its bars."""

import copy
import unittest

from drawn import all_bolts, bolt_of, lacks_of, pots_of

from waxcloth.bolt import bare, boiled, with_wax
from waxcloth.needs import bars, lacking, met, needed


def sample():
    """Three pots and four cells: dye 0 is lacked by some, dye 1 by none, dye 2 by all."""
    return [
        ((0, 3, 0), False, (1, 3, 1)),
        ((2, 3, 0), True, (2, 3, 9)),
        ((9, 0, 7), False, (0, 0, 8)),
        ((4, 9, 3), True, (9, 1, 5)),
    ]


class Lacking(unittest.TestCase):
    def test_none_some_and_all(self):
        self.assertEqual(lacking(sample(), 1), [])
        self.assertEqual(lacking(sample(), 0), [0, 3])
        self.assertEqual(lacking(sample(), 2), [0, 1, 2, 3])

    def test_by_however_much(self):
        for gap in range(-9, 10):
            bolt = [((0,), False, (gap,))] if gap >= 0 else [((-gap,), False, (0,))]
            self.assertEqual(lacking(bolt, 0), [0] if gap > 0 else [])

    def test_wax_does_not_matter(self):
        for dye in range(3):
            self.assertEqual(lacking(boiled(sample()), dye), lacking(sample(), dye))
            self.assertEqual(lacking(with_wax(sample(), (0, 1, 2, 3)), dye), lacking(sample(), dye))

    def test_the_empty_bolt(self):
        for dye in (0, 5, 11):
            self.assertEqual(lacking([], dye), [])

    def test_drawn_bolts(self):
        for bolt in all_bolts(11, 4):
            lacks = lacks_of(bolt)
            for dye in range(pots_of(bolt)):
                self.assertEqual(lacking(bolt, dye), sorted(lacks.get(dye, [])))

    def test_asked_again_after_the_answer_was_changed(self):
        bolt = sample()
        for dye, kept in [(0, [0, 3]), (1, []), (2, [0, 1, 2, 3])]:
            first = lacking(bolt, dye)
            self.assertIs(type(first), list)
            first.append(77)
            first[0] = 5
            self.assertEqual(lacking(bolt, dye), kept)
            self.assertEqual(bolt, sample())


class Needed(unittest.TestCase):
    def test_none_some_and_all(self):
        self.assertEqual(needed(bare(12, 3)), [])
        self.assertEqual(needed(sample()), [0, 2])
        self.assertEqual(needed(bolt_of(3, [[2], [1], [0]])), [0, 1, 2])
        self.assertEqual(needed(bolt_of(1, [[0]] * 12)), list(range(12)))

    def test_one_cell_is_enough(self):
        for at in range(4):
            for dye in range(12):
                lacks = [[at] if other == dye else [] for other in range(12)]
                self.assertEqual(needed(bolt_of(4, lacks)), [dye])

    def test_what_is_spare_is_not_needed(self):
        self.assertEqual(needed([((5, 0), False, (4, 0))]), [])
        self.assertEqual(needed([((5, 0), False, (4, 1))]), [1])

    def test_no_cells_and_no_pots(self):
        self.assertEqual(needed([]), [])
        self.assertEqual(needed(bare(0, 4)), [])

    def test_drawn_bolts(self):
        for bolt in all_bolts(12, 4):
            self.assertEqual(needed(bolt), sorted(lacks_of(bolt)))

    def test_asked_again_after_the_answer_was_changed(self):
        bolt = sample()
        first = needed(bolt)
        self.assertIs(type(first), list)
        first.clear()
        self.assertEqual(needed(bolt), [0, 2])
        self.assertEqual(bolt, sample())
        empty = []
        needed(empty).append(1)
        self.assertEqual(empty, [])
        self.assertEqual(needed(empty), [])


class Met(unittest.TestCase):
    def test_met_with_and_without_wax(self):
        bolt = [((1, 0), False, (1, 0)), ((9, 9), False, (9, 9))]
        for cells in [(), (0,), (1,), (0, 1)]:
            self.assertIs(met(with_wax(bolt, cells)), True)

    def test_not_met_with_and_without_wax(self):
        for wish in [(1, 1), (2, 0), (0, 0), (9, 9)]:
            for at in range(3):
                bolt = [((1, 0), False, (1, 0))] * 3
                bolt[at] = ((1, 0), False, wish)
                for cells in [(), (0,), (1,), (2,), (0, 1, 2)]:
                    self.assertIs(met(with_wax(bolt, cells)), False)

    def test_one_spare_shade_is_not_met(self):
        self.assertIs(met([((1,), False, (0,))]), False)

    def test_a_lack_and_a_spare_do_not_even_out(self):
        self.assertIs(met([((1, 0), False, (0, 1))]), False)

    def test_no_cells_and_no_pots(self):
        self.assertIs(met([]), True)
        self.assertIs(met(bare(0, 3)), True)
        self.assertIs(met(bare(12, 40)), True)

    def test_the_bolt_stays(self):
        bolt = sample()
        met(bolt)
        self.assertEqual(bolt, sample())


class Bars(unittest.TestCase):
    def test_each_word_for_each_gap(self):
        for stain in range(10):
            for wish in range(10):
                for waxed in (False, True):
                    for fresh in (False, True):
                        gap = wish - stain
                        word = None
                        if gap < 0:
                            word = "spare"
                        elif gap >= 2:
                            word = "deep"
                        elif gap == 1 and not fresh:
                            word = "spent"
                        expected = [(word, 0, 0)] if word else []
                        self.assertEqual(bars([((stain,), waxed, (wish,))], [fresh]), expected)

    def test_by_one_and_by_two(self):
        bolt = [((0, 0, 0, 0), False, (1, 2, 1, 2))]
        self.assertEqual(bars(bolt, [True] * 4), [("deep", 0, 1), ("deep", 0, 3)])
        self.assertEqual(
            bars(bolt, [False, False, True, True]),
            [("spent", 0, 0), ("deep", 0, 1), ("deep", 0, 3)],
        )

    def test_by_cells_and_then_by_dyes(self):
        self.assertEqual(bars(sample(), [False, True, False]), [
            ("spent", 0, 0), ("spent", 0, 2),
            ("deep", 1, 2),
            ("spare", 2, 0), ("spent", 2, 2),
            ("deep", 3, 0), ("spare", 3, 1), ("deep", 3, 2),
        ])
        self.assertEqual(bars(sample(), [True, False, True]), [
            ("deep", 1, 2), ("spare", 2, 0), ("deep", 3, 0), ("spare", 3, 1), ("deep", 3, 2),
        ])

    def test_none(self):
        self.assertEqual(bars(bolt_of(3, [[0], [1, 2]], stain=8), [True, True]), [])
        self.assertEqual(bars(bolt_of(3, [[], []]), [False, False]), [])
        self.assertEqual(bars([], [True, False]), [])
        self.assertEqual(bars([], []), [])
        self.assertEqual(bars(bare(0, 5), []), [])

    def test_a_pot_that_is_spent_bars_its_own_dye_alone(self):
        bolt = bolt_of(2, [[0, 1]] * 12)
        for dye in range(12):
            fresh = [other != dye for other in range(12)]
            self.assertEqual(bars(bolt, fresh), [("spent", 0, dye), ("spent", 1, dye)])

    def test_drawn_bolts(self):
        for many, bolt in enumerate(all_bolts(13, 4)):
            pots = pots_of(bolt)
            fresh = [(many + dye) % 3 > 0 for dye in range(pots)]
            expected = []
            for at, (stain, waxed, wish) in enumerate(bolt):
                for dye in range(pots):
                    if stain[dye] > wish[dye]:
                        expected.append(("spare", at, dye))
                    if stain[dye] + 2 <= wish[dye]:
                        expected.append(("deep", at, dye))
                    if stain[dye] + 1 == wish[dye] and not fresh[dye]:
                        expected.append(("spent", at, dye))
            told = bars(bolt, fresh)
            self.assertEqual(told, expected)
            self.assertEqual(len({bar[1:] for bar in told}), len(told))

    def test_both_lists_handed_in_stay(self):
        bolt, fresh = sample(), [False, True, False]
        first = bars(bolt, fresh)
        kept = copy.deepcopy(first)
        self.assertIs(type(first), list)
        self.assertEqual({type(bar) for bar in first}, {tuple})
        first.clear()
        self.assertEqual((bolt, fresh), (sample(), [False, True, False]))
        self.assertEqual(bars(bolt, fresh), kept)


if __name__ == "__main__":
    unittest.main()
