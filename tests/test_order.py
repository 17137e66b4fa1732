"""Members, who is beneath whom, why two clash, layers and longest rows."""

import itertools
import random
import unittest

from drawn import all_bolts, bolt_of, lacks_of, said_beneath, wax_of

from waxcloth.bolt import bare
from waxcloth.order import NOW, apart, beneath, layers, longest, members


class Members(unittest.TestCase):
    def test_the_present_is_twelve(self):
        self.assertEqual(NOW, 12)
        self.assertIs(type(NOW), int)

    def test_needed_dyes_and_the_present(self):
        self.assertEqual(members(bolt_of(2, [[0], [], [0, 1]])), [0, 2, 12])
        self.assertEqual(members(bolt_of(1, [[0]] * 12)), list(range(13)))

    def test_the_present_alone(self):
        for bolt in ([], bare(0, 3), bare(12, 3), [((3,), True, (1,))]):
            self.assertEqual(members(bolt), [12])

    def test_drawn_bolts(self):
        for bolt in all_bolts(21, 3):
            self.assertEqual(members(bolt), sorted(lacks_of(bolt)) + [12])

    def test_asked_again_after_the_answer_was_changed(self):
        bolt = bolt_of(2, [[0], [1]])
        first = members(bolt)
        first.clear()
        self.assertEqual(members(bolt), [0, 1, 12])
        self.assertEqual(bolt, bolt_of(2, [[0], [1]]))


class Beneath(unittest.TestCase):
    def assert_ways(self, bolt, one, other, there, back):
        self.assertIs(beneath(bolt, one, other), there)
        self.assertIs(beneath(bolt, other, one), back)

    def test_the_same_cells(self):
        bolt = bolt_of(3, [[0, 2], [0, 2], [1], [0, 2]])
        for less, greater in [(0, 1), (0, 3), (1, 3)]:
            self.assert_ways(bolt, greater, less, True, False)

    def test_a_true_part(self):
        self.assert_ways(bolt_of(3, [[0], [0, 2]]), 0, 1, True, False)
        self.assert_ways(bolt_of(3, [[0, 2], [2]]), 1, 0, True, False)

    def test_neither(self):
        self.assert_ways(bolt_of(3, [[0], [1]]), 0, 1, False, False)
        self.assert_ways(bolt_of(3, [[0, 1], [1, 2]]), 0, 1, False, False)
        self.assert_ways(bolt_of(4, [[0], [1, 2, 3]]), 0, 1, False, False)

    def test_how_much_is_lacked_does_not_matter(self):
        bolt = [((0, 0), False, (9, 1)), ((0, 5), False, (1, 7))]
        self.assert_ways(bolt, 1, 0, True, False)

    def test_wax_does_not_matter_between_dyes(self):
        for wax in ([], [0], [1], [0, 1, 2]):
            self.assert_ways(bolt_of(3, [[0], [0, 2]], wax), 0, 1, True, False)
            self.assert_ways(bolt_of(3, [[1], [0, 2]], wax), 0, 1, False, False)

    def test_the_present_without_wax(self):
        bolt = bolt_of(3, [[0], [0, 1, 2]])
        self.assert_ways(bolt, 0, 12, True, False)
        self.assert_ways(bolt, 1, 12, True, False)

    def test_the_present_with_wax(self):
        bolt = bolt_of(4, [[0], [0, 1, 2], [2, 3], [1]], [1])
        self.assert_ways(bolt, 0, 12, True, False)
        self.assert_ways(bolt, 1, 12, False, False)
        self.assert_ways(bolt, 2, 12, True, False)
        self.assert_ways(bolt, 3, 12, False, False)

    def test_nothing_beneath_itself(self):
        bolt = bolt_of(3, [[0], [0, 2], [1]], [1])
        for member in (0, 1, 2, 12):
            self.assertIs(beneath(bolt, member, member), False)
        self.assertIs(beneath([], 12, 12), False)

    def test_each_two_of_drawn_bolts(self):
        for bolt in all_bolts(22, 2):
            kept = list(bolt)
            for one, other in itertools.product(members(bolt), repeat=2):
                self.assertIs(beneath(bolt, one, other), said_beneath(bolt, one, other))
            self.assertEqual(bolt, kept)

    def test_beneath_what_is_beneath_is_beneath(self):
        for bolt in all_bolts(23, 1):
            every = members(bolt)
            table = {pair: beneath(bolt, *pair) for pair in itertools.product(every, repeat=2)}
            for one, other, third in itertools.product(every, repeat=3):
                if table[one, other] and table[other, third]:
                    self.assertTrue(table[one, third])
                self.assertFalse(table[one, other] and table[other, one])


class Apart(unittest.TestCase):
    def test_none(self):
        bolt = bolt_of(4, [[0, 1], [0], [0, 1], [3]], [2])
        for one, other in [(0, 1), (0, 2), (1, 2), (0, 12), (3, 12)]:
            self.assertIsNone(apart(bolt, one, other))
            self.assertIsNone(apart(bolt, other, one))

    def test_a_pair_of_the_least_cells(self):
        bolt = bolt_of(6, [[1, 2, 3, 4], [1, 3, 5]])
        self.assertEqual(apart(bolt, 0, 1), (2, 5))
        self.assertEqual(apart(bolt, 1, 0), (5, 2))
        bolt = bolt_of(6, [[3, 4, 5], [0, 1, 2, 5]])
        self.assertEqual(apart(bolt, 0, 1), (3, 0))
        self.assertEqual(apart(bolt, 1, 0), (0, 3))

    def test_wax_does_not_matter_between_dyes(self):
        for wax in ([], [2], [5], list(range(6))):
            self.assertEqual(apart(bolt_of(6, [[1, 2, 3, 4], [1, 3, 5]], wax), 0, 1), (2, 5))

    def test_the_present_in_both_orders(self):
        bolt = bolt_of(5, [[0, 2, 4], [4], [3], [0, 1]], [1, 2, 4])
        for dye, told in [(0, (2,)), (1, (4,)), (2, None), (3, (1,))]:
            self.assertEqual(apart(bolt, dye, 12), told)
            self.assertEqual(apart(bolt, 12, dye), told)

    def test_the_same_member_twice(self):
        bolt = bolt_of(3, [[0, 1], [2]], [0, 1, 2])
        for member in (0, 1, 12):
            self.assertIsNone(apart(bolt, member, member))
        self.assertIsNone(apart([], 12, 12))

    def test_each_two_of_drawn_bolts(self):
        for bolt in all_bolts(24, 2):
            lacks, wax, kept = lacks_of(bolt), wax_of(bolt), list(bolt)
            for one, other in itertools.product(members(bolt), repeat=2):
                told = apart(bolt, one, other)
                if one == other or said_beneath(bolt, one, other) or said_beneath(bolt, other, one):
                    self.assertIsNone(told)
                elif 12 in (one, other):
                    self.assertEqual(told, (min(lacks[min(one, other)] & wax),))
                else:
                    self.assertEqual(told, (min(lacks[one] - lacks[other]), min(lacks[other] - lacks[one])))
                if told is not None:
                    self.assertIs(type(told), tuple)
            self.assertEqual(bolt, kept)


class Layers(unittest.TestCase):
    def assert_row(self, bolt, dyes):
        """A longest row: out of the dyes, as long as there are layers, each one beneath all ahead of it."""
        kept = list(dyes)
        row = longest(bolt, dyes)
        self.assertIs(type(row), list)
        self.assertEqual(dyes, kept)
        self.assertEqual(len(row), len(layers(bolt, dyes)))
        self.assertLessEqual(set(row), set(dyes))
        for ahead, behind in itertools.combinations(row, 2):
            self.assertTrue(said_beneath(bolt, behind, ahead))

    def assert_layers(self, bolt, dyes):
        """Each layer has what is beneath no one of what is left when the layers ahead are taken out."""
        told, left = layers(bolt, dyes), set(dyes)
        for layer in told:
            top = [dye for dye in sorted(left) if not any(said_beneath(bolt, dye, other) for other in left)]
            self.assertEqual(layer, top)
            self.assertTrue(layer)
            left -= set(layer)
        self.assertEqual(left, set())

    def test_no_dyes(self):
        for bolt in ([], bare(3, 2), bolt_of(2, [[0], [1]])):
            self.assertEqual(layers(bolt, []), [])
            self.assertEqual(longest(bolt, []), [])

    def test_one_dye(self):
        bolt = bolt_of(3, [[0, 1], [1], [2]])
        for dye in range(3):
            self.assertEqual(layers(bolt, [dye]), [[dye]])
            self.assertEqual(longest(bolt, [dye]), [dye])

    def test_a_drawn_order(self):
        # Dyes 1 and 4 are lacked by the most, 0 and 3 by the same cells out of those of 1, and 2 by one of these.
        bolt = bolt_of(6, [[0, 1], [0, 1, 2], [1], [0, 1], [3, 4]])
        for dyes in itertools.permutations(range(5)):
            self.assertEqual(layers(bolt, list(dyes)), [[1, 4], [0], [3], [2]])
            self.assertEqual(longest(bolt, list(dyes)), [1, 0, 3, 2])

    def test_a_part_of_the_dyes(self):
        bolt = bolt_of(6, [[0, 1], [0, 1, 2], [1], [0, 1], [3, 4]])
        self.assertEqual(layers(bolt, [4, 3, 2]), [[3, 4], [2]])
        self.assertEqual(longest(bolt, [4, 3, 2]), [3, 2])
        self.assertEqual(layers(bolt, [3, 0]), [[0], [3]])
        self.assertEqual(layers(bolt, [2, 4]), [[2, 4]])

    def test_a_row_finds_its_way_through_wide_layers(self):
        # The least dye of the first layer is above nothing; the row must begin with another one.
        bolt = bolt_of(6, [[5], [0, 1, 2], [3, 4], [4], [0, 1], [1]])
        self.assertEqual(layers(bolt, [0, 1, 2, 3, 4, 5]), [[0, 1, 2], [3, 4], [5]])
        self.assertEqual(longest(bolt, [0, 1, 2, 3, 4, 5]), [1, 4, 5])

    def test_the_same_cells_twelve_times(self):
        bolt = bolt_of(2, [[1]] * 12)
        self.assertEqual(layers(bolt, list(range(11, -1, -1))), [[dye] for dye in range(12)])
        self.assertEqual(longest(bolt, list(range(12))), list(range(12)))

    def test_twelve_that_clash(self):
        bolt = bolt_of(12, [[dye] for dye in range(12)])
        self.assertEqual(layers(bolt, list(range(11, -1, -1))), [list(range(12))])
        self.assertEqual(len(longest(bolt, list(range(12)))), 1)

    def test_drawn_bolts(self):
        rng = random.Random(25)
        for bolt in all_bolts(26, 3):
            dyes = sorted(lacks_of(bolt))
            rng.shuffle(dyes)
            for some in (dyes, dyes[::2], dyes[1:]):
                self.assert_layers(bolt, some)
                self.assert_row(bolt, some)

    def test_asked_again_after_the_answers_were_changed(self):
        bolt, dyes = bolt_of(3, [[0, 1], [1], [2]]), [2, 1, 0]
        first, row = layers(bolt, dyes), longest(bolt, dyes)
        kept = list(row)
        self.assertEqual(first, [[0, 2], [1]])
        first[0].clear()
        first[1].append(9)
        first.append([])
        row.clear()
        self.assertEqual(layers(bolt, dyes), [[0, 2], [1]])
        self.assertEqual(longest(bolt, dyes), kept)
        self.assertEqual(dyes, [2, 1, 0])
        self.assertEqual(bolt, bolt_of(3, [[0, 1], [1], [2]]))


if __name__ == "__main__":
    unittest.main()
