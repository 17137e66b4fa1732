"""Stretches, what shows that there are no fewer, boilings, and the dyes that ease."""

import copy
import itertools
import unittest

from drawn import all_bolts, bolt_of, fewest_boilings, lacks_of, least_lists, said_beneath

from waxcloth.bolt import bare, boiled, with_wax
from waxcloth.sharing import boilings, easing, held, stretches


def subsets(size):
    return [cells for many in range(size + 1) for cells in itertools.combinations(range(size), many)]


def contented(bolt, dye):
    """The bolt in which each cell that lacks the dye wishes no more of it than it has."""
    told = []
    for stain, waxed, wish in bolt:
        shade = min(wish[dye], stain[dye])
        told.append((stain, waxed, wish[:dye] + (shade,) + wish[dye + 1:]))
    return told


class Sharing(unittest.TestCase):
    def assert_stretches(self, bolt):
        told = stretches(bolt)
        self.assertEqual({type(row) for row in [told] + told}, {list})
        dyes = [dye for row in told for dye in row]
        self.assertEqual(sorted(dyes), sorted(lacks_of(bolt)))
        for row in told:
            for ahead, behind in itertools.combinations(row, 2):
                self.assertTrue(said_beneath(bolt, behind, ahead))
        for dye in told[0]:
            self.assertTrue(said_beneath(bolt, dye, 12))
        self.assertTrue(all(told[1:]))
        return len(told)

    def assert_held(self, bolt, many):
        told = held(bolt)
        self.assertIs(type(told), list)
        self.assertEqual(len(told), many)
        self.assertEqual(told, sorted(set(told)))
        self.assertLessEqual(set(told), set(lacks_of(bolt)) | {12})
        for one, other in itertools.permutations(told, 2):
            self.assertFalse(said_beneath(bolt, one, other))

    def assert_shared(self, bolt):
        """All that the document says of stretches, held and boilings; tells how many stretches there are."""
        kept = copy.deepcopy(bolt)
        many = self.assert_stretches(bolt)
        self.assert_held(bolt, many)
        self.assertEqual(boilings(bolt), many - 1)
        self.assertIs(type(boilings(bolt)), int)
        self.assertEqual(bolt, kept)
        return many


class Told(Sharing):
    def test_nothing_lacked(self):
        spare = [((3, 1), True, (1, 0))]
        for bolt in ([], bare(0, 3), bare(12, 4), with_wax(bare(3, 2), (0, 1)), spare):
            self.assertEqual(stretches(bolt), [[]])
            self.assertEqual(held(bolt), [12])
            self.assertEqual(boilings(bolt), 0)
            self.assertEqual(easing(bolt), [])

    def test_one_dye(self):
        self.assertEqual(stretches(bolt_of(3, [[0, 2]])), [[0]])
        self.assertEqual(stretches(bolt_of(3, [[0, 2]], [1])), [[0]])
        self.assertEqual(stretches(bolt_of(3, [[0, 2]], [2])), [[], [0]])
        self.assertEqual(held(bolt_of(3, [[0, 2]], [2])), [0, 12])
        self.assertEqual(boilings(bolt_of(3, [[0, 2]], [2])), 1)

    def test_a_row_of_parts(self):
        bolt = bolt_of(4, [[1], [0, 1, 2], [1, 2], [1, 2]])
        self.assertEqual(stretches(bolt), [[1, 2, 3, 0]])
        self.assertEqual(len(held(bolt)), 1)

    def test_the_same_cells_twelve_times(self):
        self.assertEqual(stretches(bolt_of(2, [[1]] * 12)), [list(range(12))])
        self.assertEqual(stretches(bolt_of(2, [[1]] * 12, [1])), [[], list(range(12))])
        self.assertEqual(boilings(bolt_of(2, [[1]] * 12, [1])), 1)

    def test_twelve_that_clash(self):
        lacks = [[dye] for dye in range(12)]
        self.assertEqual(self.assert_shared(bolt_of(12, lacks)), 12)
        self.assertEqual(held(bolt_of(12, lacks)), list(range(12)))
        waxed = bolt_of(12, lacks, range(12))
        self.assertEqual(self.assert_shared(waxed), 13)
        self.assertEqual(held(waxed), list(range(13)))

    def test_wax_where_nothing_is_lacked_costs_nothing(self):
        bolt = bolt_of(4, [[0], [1], [0, 1]], [2, 3])
        self.assertEqual(self.assert_shared(bolt), 2)

    def test_taking_the_first_that_fits_would_not_do(self):
        # Dye 2 fits beneath 0 and 1, dye 3 beneath 0 alone: 2 must leave 0 to it.
        bolt = bolt_of(6, [[0, 1, 2], [1, 4], [1], [0, 2]])
        self.assertEqual(self.assert_shared(bolt), 2)

    def test_the_present_takes_a_row_that_clashes_with_no_wax(self):
        bolt = bolt_of(4, [[0, 3], [1], [0]], [3])
        self.assertEqual(self.assert_shared(bolt), 2)

    def test_drawn_bolts(self):
        seen = set()
        for bolt in all_bolts(31, 30):
            seen.add(self.assert_shared(bolt))
        self.assertLessEqual(set(range(1, 12)), seen)

    def test_all_choices_for_small_bolts(self):
        for bolt in all_bolts(32, 12, 5):
            self.assertEqual(self.assert_shared(bolt), least_lists(bolt))

    def test_every_bolt_of_three_cells_and_three_dyes(self):
        for lacks in itertools.product(subsets(3), repeat=3):
            for wax in subsets(3):
                bolt = bolt_of(3, lacks, wax)
                self.assertEqual(self.assert_shared(bolt) - 1, fewest_boilings(bolt))

    def test_rows_of_moves_for_small_bolts(self):
        for bolt in all_bolts(33, 6, 5):
            if len(bolt) <= 5:
                self.assertEqual(boilings(bolt), fewest_boilings(bolt))

    def test_bars_do_not_matter(self):
        for lacks in itertools.product(subsets(3), repeat=2):
            for wax in subsets(3):
                one, two = bolt_of(3, lacks, wax), bolt_of(3, lacks, wax, by=2)
                self.assertEqual(self.assert_shared(one), self.assert_shared(two))

    def test_more_pots_than_twelve_are_not_refused(self):
        lacks = [[dye % 3] for dye in range(14)]
        told = stretches(bolt_of(3, lacks))
        self.assertEqual(sorted(map(sorted, told)), [[0, 3, 6, 9, 12], [1, 4, 7, 10, 13], [2, 5, 8, 11]])
        self.assertEqual(boilings(bolt_of(3, lacks)), 2)
        self.assertEqual(len(held(bolt_of(3, lacks))), 3)

    def test_asked_again_after_the_answers_were_changed(self):
        for bolt in all_bolts(34, 1):
            kept = copy.deepcopy(bolt)
            rows, shown, eased = stretches(bolt), held(bolt), easing(bolt)
            first = copy.deepcopy((rows, shown, eased))
            for row in rows:
                row.append(99)
            for told in (rows, shown, eased):
                told.clear()
            self.assertEqual((stretches(bolt), held(bolt), easing(bolt)), first)
            self.assertEqual(bolt, kept)


class Easing(Sharing):
    def test_each_of_two_that_clash(self):
        self.assertEqual(easing(bolt_of(2, [[0], [1]])), [0, 1])

    def test_none_where_others_clash_too(self):
        self.assertEqual(easing(bolt_of(4, [[0], [0], [1], [1]])), [])

    def test_the_one_that_clashes_with_both(self):
        self.assertEqual(easing(bolt_of(4, [[0, 1], [0], [2]])), [2])

    def test_the_one_under_wax(self):
        self.assertEqual(easing(bolt_of(3, [[0], [2], [2]], [0])), [0])
        self.assertEqual(easing(bolt_of(3, [[0], [2], [2]], [0, 2])), [0])

    def test_no_boiling_is_never_eased(self):
        self.assertEqual(easing(bolt_of(3, [[0, 1, 2], [1, 2], [2]])), [])

    def test_against_the_contented_bolt(self):
        eased = 0
        for bolt in all_bolts(35, 8):
            pots = len(bolt[0][0]) if bolt else 0
            many = boilings(bolt)
            expected = [dye for dye in range(pots) if boilings(contented(bolt, dye)) < many]
            told = easing(bolt)
            self.assertEqual(told, expected)
            self.assertIs(type(told), list)
            eased += len(told)
        self.assertGreater(eased, 100)

    def test_the_bolt_stays(self):
        bolt = bolt_of(3, [[0], [1], [2]], [1])
        easing(bolt)
        self.assertEqual(bolt, bolt_of(3, [[0], [1], [2]], [1]))

    def test_a_boiling_lets_go_of_the_wax(self):
        bolt = bolt_of(3, [[0], [0, 1]], [0])
        self.assertEqual(boilings(bolt), 1)
        self.assertEqual(boilings(boiled(bolt)), 0)


if __name__ == "__main__":
    unittest.main()
