"""Bolts: bare ones, wishes, wax, dips and boilings."""

import copy
import itertools
import unittest

from waxcloth.bolt import bare, boiled, dipped, with_wax, with_wish
from waxcloth.errors import BadWish, NoCell, TooDeep, Twice


def sample():
    """A bolt of four cells and two pots, with wax on the cells 1 and 3."""
    return [
        ((0, 1), False, (1, 1)),
        ((9, 2), True, (9, 9)),
        ((3, 8), False, (0, 0)),
        ((4, 4), True, (5, 4)),
    ]


class Kinds(unittest.TestCase):
    def assert_bolt(self, bolt, pots):
        self.assertIs(type(bolt), list)
        for cell in bolt:
            self.assertIs(type(cell), tuple)
            self.assertEqual([type(part) for part in cell], [tuple, bool, tuple])
            for picture in (cell[0], cell[2]):
                self.assertEqual(len(picture), pots)
                self.assertEqual([type(shade) for shade in picture], [int] * pots)

    def assert_untouched(self, do):
        """What is handed in stays as it was, also when the answer is changed."""
        bolt = sample()
        told = do(bolt)
        self.assertIsNot(told, bolt)
        self.assertEqual(bolt, sample())
        self.assert_bolt(told, 2)
        kept = copy.deepcopy(told)
        told[0] = None
        del told[1:]
        self.assertEqual(bolt, sample())
        self.assertEqual(do(bolt), kept)
        again = do(bolt)
        bolt.clear()
        self.assertEqual(again, kept)

    def assert_refused(self, error, do):
        """It is refused with just this error, and what is handed in stays as it was."""
        bolt = sample()
        with self.assertRaises(error) as caught:
            do(bolt)
        self.assertIs(type(caught.exception), error)
        self.assertEqual(bolt, sample())


class Bare(Kinds):
    def test_values(self):
        self.assertEqual(bare(2, 3), [((0, 0), False, (0, 0))] * 3)
        self.assertEqual(bare(1, 1), [((0,), False, (0,))])

    def test_edges(self):
        for pots in (0, 12):
            for size in (0, 40):
                with self.subTest(f"{pots} pots, {size} cells"):
                    bolt = bare(pots, size)
                    self.assert_bolt(bolt, pots)
                    self.assertEqual(bolt, [((0,) * pots, False, (0,) * pots)] * size)

    def test_each_number_of_pots_and_cells(self):
        for pots in range(13):
            for size in range(41):
                bolt = bare(pots, size)
                self.assertEqual(len(bolt), size)
                self.assert_bolt(bolt, pots)

    def test_somewhat_beyond_is_not_refused(self):
        self.assertEqual(bare(14, 45), [((0,) * 14, False, (0,) * 14)] * 45)

    def test_asked_again_after_the_answer_was_changed(self):
        first = bare(2, 2)
        first[0] = ((9, 9), True, (9, 9))
        first.append(None)
        self.assertEqual(bare(2, 2), [((0, 0), False, (0, 0))] * 2)


class WithWish(Kinds):
    def test_a_good_wish(self):
        expected = sample()
        expected[2] = ((3, 8), False, (4, 9))
        self.assertEqual(with_wish(sample(), 2, (4, 9)), expected)

    def test_each_cell_keeps_its_stain_and_wax(self):
        for at in range(4):
            expected = sample()
            expected[at] = (expected[at][0], expected[at][1], (7, 0))
            told = with_wish(sample(), at, (7, 0))
            self.assertEqual(told, expected)
            self.assert_bolt(told, 2)

    def test_the_edges_of_a_wish(self):
        for wish in itertools.product(range(10), repeat=2):
            self.assertEqual(with_wish(sample(), 0, wish)[0], ((0, 1), False, wish))

    def test_a_wish_without_pots(self):
        self.assertEqual(with_wish(bare(0, 2), 1, ()), bare(0, 2))
        with self.assertRaises(BadWish):
            with_wish(bare(0, 2), 1, (0,))

    def test_a_wish_of_twelve_pots(self):
        wish = (9, 0, 1, 2, 3, 4, 5, 6, 7, 8, 9, 0)
        self.assertEqual(with_wish(bare(12, 40), 39, wish)[39], ((0,) * 12, False, wish))

    def test_the_wish_that_the_cell_has_already(self):
        bolt = sample()
        told = with_wish(bolt, 0, (1, 1))
        self.assertEqual(told, sample())
        self.assertIsNot(told, bolt)
        self.assert_untouched(lambda bolt: with_wish(bolt, 0, (1, 1)))

    def test_no_cell(self):
        for at in (-5, -4, -1, 4, 5, 10 ** 20, -10 ** 20):
            with self.subTest(at):
                self.assert_refused(NoCell, lambda bolt: with_wish(bolt, at, (1, 1)))

    def test_no_cell_of_an_empty_bolt(self):
        for at in (-1, 0, 1):
            with self.assertRaises(NoCell):
                with_wish([], at, ())

    def test_no_cell_ahead_of_bad_wish(self):
        for at in (-1, 4, 10 ** 20):
            for wish in [(), (1,), (1, 1, 1), (10, 0), (0, -1)]:
                with self.subTest(f"{at} {wish}"):
                    self.assert_refused(NoCell, lambda bolt: with_wish(bolt, at, wish))

    def test_wrong_number_of_shades(self):
        for wish in [(), (1,), (1, 1, 1), (0,) * 12]:
            with self.subTest(str(wish)):
                self.assert_refused(BadWish, lambda bolt: with_wish(bolt, 1, wish))

    def test_wrong_shades(self):
        for shade in (-1, 10, 10 ** 20, -10 ** 20):
            for wish in [(shade, 0), (0, shade), (shade, shade)]:
                with self.subTest(str(wish)):
                    self.assert_refused(BadWish, lambda bolt: with_wish(bolt, 3, wish))

    def test_the_bolt_handed_in_stays(self):
        for at in range(4):
            self.assert_untouched(lambda bolt: with_wish(bolt, at, (2, 3)))


class WithWax(Kinds):
    def waxed(self, bolt):
        return [at for at, cell in enumerate(bolt) if cell[1]]

    def test_no_cells(self):
        self.assertEqual(with_wax(sample(), ()), sample())
        self.assertEqual(with_wax([], ()), [])

    def test_all_cells(self):
        self.assertEqual(
            with_wax(sample(), (0, 1, 2, 3)),
            [(stain, True, wish) for stain, waxed, wish in sample()],
        )

    def test_any_order(self):
        for many in range(5):
            for cells in itertools.permutations(range(4), many):
                told = with_wax(bare(1, 4), cells)
                self.assertEqual(self.waxed(told), sorted(cells))
                self.assertEqual([cell[::2] for cell in told], [((0,), (0,))] * 4)
                self.assert_bolt(told, 1)

    def test_wax_that_lies_already(self):
        self.assertEqual(with_wax(sample(), (1,)), sample())
        self.assertEqual(with_wax(sample(), (3, 1)), sample())

    def test_other_wax_stays(self):
        expected = sample()
        expected[2] = ((3, 8), True, (0, 0))
        self.assertEqual(with_wax(sample(), (2,)), expected)
        self.assertEqual(with_wax(sample(), (3, 2)), expected)

    def test_forty_cells(self):
        self.assertEqual(self.waxed(with_wax(bare(12, 40), (39, 0, 20))), [0, 20, 39])

    def test_no_cell(self):
        for at in (-5, -4, -1, 4, 5, 10 ** 20, -10 ** 20):
            for cells in [(at,), (0, at), (at, 0), (0, 1, at, 2)]:
                with self.subTest(str(cells)):
                    self.assert_refused(NoCell, lambda bolt: with_wax(bolt, cells))

    def test_no_cell_of_an_empty_bolt(self):
        for at in (-1, 0, 1):
            with self.assertRaises(NoCell):
                with_wax([], (at,))

    def test_twice(self):
        for cells in [(0, 0), (1, 1), (0, 2, 0), (3, 2, 1, 0, 3), (2, 2, 2)]:
            with self.subTest(str(cells)):
                self.assert_refused(Twice, lambda bolt: with_wax(bolt, cells))

    def test_no_cell_ahead_of_twice(self):
        for cells in [(0, 0, 4), (4, 0, 0), (0, 4, 0), (4, 4), (-1, -1), (2, 2, -1)]:
            with self.subTest(str(cells)):
                self.assert_refused(NoCell, lambda bolt: with_wax(bolt, cells))

    def test_the_bolt_handed_in_stays(self):
        for cells in [(), (0,), (1,), (2, 0), (3, 2, 1, 0)]:
            self.assert_untouched(lambda bolt: with_wax(bolt, cells))


class Dipped(Kinds):
    def test_cells_with_and_without_wax(self):
        self.assertEqual(dipped(sample(), 0), [
            ((1, 1), False, (1, 1)),
            ((9, 2), True, (9, 9)),
            ((4, 8), False, (0, 0)),
            ((4, 4), True, (5, 4)),
        ])
        self.assertEqual(dipped(sample(), 1), [
            ((0, 2), False, (1, 1)),
            ((9, 2), True, (9, 9)),
            ((3, 9), False, (0, 0)),
            ((4, 4), True, (5, 4)),
        ])

    def test_each_dye_of_twelve(self):
        for dye in range(12):
            told = dipped(with_wax(bare(12, 3), (1,)), dye)
            one = tuple([1 if at == dye else 0 for at in range(12)])
            clear = (0,) * 12
            self.assertEqual(told, [(one, False, clear), (clear, True, clear), (one, False, clear)])
            self.assert_bolt(told, 12)

    def test_nine_dips_go_and_the_tenth_is_refused(self):
        bolt = bare(2, 2)
        for shade in range(1, 10):
            bolt = dipped(bolt, 1)
            self.assertEqual(bolt, [((0, shade), False, (0, 0))] * 2)
        with self.assertRaises(TooDeep):
            dipped(bolt, 1)
        self.assertEqual(dipped(bolt, 0), [((1, 9), False, (0, 0))] * 2)

    def test_nine_shades_without_wax(self):
        for at in range(3):
            bolt = bare(2, 3)
            bolt[at] = ((9, 0), False, (0, 0))
            kept = list(bolt)
            with self.assertRaises(TooDeep) as caught:
                dipped(bolt, 0)
            self.assertIs(type(caught.exception), TooDeep)
            self.assertEqual(bolt, kept)
            self.assertEqual(dipped(bolt, 1)[at], ((9, 1), False, (0, 0)))

    def test_nine_shades_under_wax(self):
        bolt = [((9,), True, (9,)), ((8,), False, (9,))]
        self.assertEqual(dipped(bolt, 0), [((9,), True, (9,)), ((9,), False, (9,))])
        self.assertEqual(dipped([((9,), True, (0,))], 0), [((9,), True, (0,))])

    def test_nine_shades_under_wax_and_without(self):
        for bolt in ([((9,), True, (9,)), ((9,), False, (9,))], [((9,), False, (9,)), ((9,), True, (9,))]):
            with self.assertRaises(TooDeep):
                dipped(bolt, 0)

    def test_a_wish_of_nine_refuses_nothing(self):
        self.assertEqual(dipped([((0,), False, (9,))], 0), [((1,), False, (9,))])

    def test_an_empty_bolt_and_any_number(self):
        for dye in (-1, 0, 5, 11, 12, 10 ** 20, -10 ** 20):
            bolt = []
            told = dipped(bolt, dye)
            self.assertEqual(told, [])
            self.assertIs(type(told), list)
            told.append(None)
            self.assertEqual(bolt, [])

    def test_the_bolt_handed_in_stays(self):
        for dye in (0, 1):
            self.assert_untouched(lambda bolt: dipped(bolt, dye))

    def test_the_bolt_handed_in_stays_where_all_bear_wax(self):
        bolt = with_wax(sample(), (0, 2))
        kept = list(bolt)
        told = dipped(bolt, 0)
        self.assertEqual(told, kept)
        told.clear()
        self.assertEqual(bolt, kept)


class Boiled(Kinds):
    def test_with_wax(self):
        self.assertEqual(boiled(sample()), [
            ((0, 1), False, (1, 1)),
            ((9, 2), False, (9, 9)),
            ((3, 8), False, (0, 0)),
            ((4, 4), False, (5, 4)),
        ])

    def test_without_wax(self):
        bolt = bare(3, 2)
        told = boiled(bolt)
        self.assertEqual(told, bare(3, 2))
        told.clear()
        self.assertEqual(bolt, bare(3, 2))

    def test_all_wax(self):
        self.assertEqual(boiled(with_wax(bare(0, 40), tuple(range(40)))), bare(0, 40))

    def test_the_empty_bolt(self):
        bolt = []
        told = boiled(bolt)
        self.assertEqual(told, [])
        self.assertIsNot(told, bolt)

    def test_the_bolt_handed_in_stays(self):
        self.assert_untouched(boiled)


if __name__ == "__main__":
    unittest.main()
