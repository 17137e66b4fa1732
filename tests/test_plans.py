"""Moves one by one, and plans of them."""

import copy
import unittest

from drawn import all_bolts, bolt_of, clean_bolts, fewest_boilings, lacks_of, pots_of

from waxcloth.bolt import bare, boiled, dipped, with_wax
from waxcloth.errors import Barred, NoCell, Spent, TooDeep, Twice
from waxcloth.needs import bars, met
from waxcloth.plans import moved, plan
from waxcloth.sharing import boilings, stretches


def sample():
    """A bolt of three cells and two pots, with wax on cell 1."""
    return [((0, 1), False, (1, 1)), ((9, 2), True, (9, 9)), ((3, 8), False, (0, 0))]


def boilings_in(moves):
    return len([move for move in moves if move == ("boil",)])


class Moved(unittest.TestCase):
    def assert_refused(self, error, bolt, fresh, move):
        kept = copy.deepcopy((bolt, fresh))
        with self.assertRaises(error) as caught:
            moved(bolt, fresh, move)
        self.assertIs(type(caught.exception), error)
        self.assertEqual((bolt, fresh), kept)

    def test_wax(self):
        for cells in [(), (0,), (1,), (2, 0), (2, 1, 0)]:
            told = moved(sample(), [True, False], ("wax", cells))
            self.assertEqual(told, (with_wax(sample(), cells), [True, False]))
        self.assertEqual([cell[1] for cell in moved(sample(), [True] * 2, ("wax", (2,)))[0]], [False, True, True])

    def test_dip(self):
        told = moved(sample(), [True, True], ("dip", 0))
        self.assertEqual(told, (
            [((1, 1), False, (1, 1)), ((9, 2), True, (9, 9)), ((4, 8), False, (0, 0))],
            [False, True],
        ))
        told = moved(sample(), [False, True], ("dip", 1))
        self.assertEqual(told, (dipped(sample(), 1), [False, False]))

    def test_a_dip_spends_its_own_pot_alone(self):
        for dye in range(12):
            bolt, fresh = moved(bare(12, 2), [True] * 12, ("dip", dye))
            self.assertEqual(fresh, [other != dye for other in range(12)])
            self.assertEqual(bolt, dipped(bare(12, 2), dye))
            self.assert_refused(Spent, bolt, fresh, ("dip", dye))

    def test_boil(self):
        self.assertEqual(moved(sample(), [False, True], ("boil",)), (boiled(sample()), [False, True]))

    def test_the_empty_bolt(self):
        self.assertEqual(moved([], [True, True], ("dip", 1)), ([], [True, False]))
        self.assertEqual(moved([], [True], ("wax", ())), ([], [True]))
        self.assertEqual(moved([], [], ("boil",)), ([], []))
        self.assert_refused(NoCell, [], [True], ("wax", (0,)))
        self.assert_refused(Spent, [], [False], ("dip", 0))

    def test_no_cell(self):
        for cells in [(3,), (-1,), (0, 3), (3, 0), (10 ** 20,)]:
            self.assert_refused(NoCell, sample(), [True, True], ("wax", cells))

    def test_twice(self):
        for cells in [(0, 0), (1, 1), (0, 2, 0)]:
            self.assert_refused(Twice, sample(), [True, True], ("wax", cells))

    def test_no_cell_ahead_of_twice(self):
        for cells in [(0, 0, 3), (3, 0, 0), (-1, -1)]:
            self.assert_refused(NoCell, sample(), [True, True], ("wax", cells))

    def test_spent_ahead_of_too_deep(self):
        deep = [((9, 0), False, (9, 0))]
        self.assert_refused(Spent, deep, [False, True], ("dip", 0))
        self.assert_refused(TooDeep, deep, [True, False], ("dip", 0))
        self.assert_refused(Spent, deep, [True, False], ("dip", 1))

    def test_nine_shades_under_wax(self):
        bolt = [((9,), True, (9,)), ((0,), False, (1,))]
        self.assertEqual(moved(bolt, [True], ("dip", 0)), ([((9,), True, (9,)), ((1,), False, (1,))], [False]))

    def test_what_is_handed_in_stays(self):
        for move in [("wax", ()), ("wax", (1,)), ("wax", (2, 0)), ("dip", 0), ("dip", 1), ("boil",)]:
            bolt, fresh = sample(), [True, True]
            told = moved(bolt, fresh, move)
            self.assertIs(type(told), tuple)
            self.assertEqual([type(part) for part in told], [list, list])
            kept = copy.deepcopy(told)
            told[0].clear()
            told[1].clear()
            self.assertEqual((bolt, fresh), (sample(), [True, True]))
            again = moved(bolt, fresh, move)
            bolt.clear()
            fresh.clear()
            self.assertEqual(again, kept)


class Plan(unittest.TestCase):
    def assert_wax(self, bolt, move):
        """A wax move has a cell at least, rising, none of which bears wax."""
        self.assertEqual(len(move), 2)
        cells = move[1]
        self.assertIs(type(cells), tuple)
        self.assertTrue(cells)
        self.assertEqual(list(cells), sorted(set(cells)))
        self.assertFalse([at for at in cells if bolt[at][1]])

    def assert_plan(self, bolt, fresh):
        """All that the document says of a plan, and of the boilings behind any first part of it."""
        kept = copy.deepcopy((bolt, fresh))
        moves = plan(bolt, fresh)
        self.assertIs(type(moves), list)
        self.assertEqual((bolt, fresh), kept)
        self.assertEqual(sorted(move[1] for move in moves if move[0] == "dip"), sorted(lacks_of(bolt)))
        self.assertEqual(boilings_in(moves), len(stretches(bolt)) - 1)
        for at, move in enumerate(moves):
            self.assertIs(type(move), tuple)
            self.assertEqual(boilings(bolt), boilings_in(moves[at:]))
            if move[0] == "wax":
                self.assert_wax(bolt, move)
            else:
                self.assertEqual(move, ("dip", move[1]) if len(move) == 2 else ("boil",))
            bolt, fresh = moved(bolt, fresh, move)
        self.assertTrue(met(bolt))
        self.assertEqual(boilings(bolt), 0)
        if moves:
            self.assertEqual(moves[-1][0], "dip")
        return moves

    def test_a_met_bolt(self):
        for bolt in ([], bare(0, 3), bare(12, 40), with_wax(bare(2, 3), (0, 2)), [((9, 4), True, (9, 4))]):
            for state in (True, False):
                self.assertEqual(plan(bolt, [state] * pots_of(bolt)), [])
        self.assertEqual(plan([], [True, False]), [])

    def test_one_dye(self):
        self.assertEqual(plan(bolt_of(3, [[1]]), [True]), [("wax", (0, 2)), ("dip", 0)])
        self.assertEqual(plan(bolt_of(3, [[0, 1, 2]]), [True]), [("dip", 0)])

    def test_wax_that_lies_where_it_is_of_use(self):
        self.assertEqual(plan(bolt_of(3, [[1]], [0]), [True]), [("wax", (2,)), ("dip", 0)])
        self.assertEqual(plan(bolt_of(3, [[1]], [0, 2]), [True]), [("dip", 0)])

    def test_wax_that_lies_in_the_way(self):
        self.assertEqual(plan(bolt_of(3, [[0, 1, 2]], [1]), [True]), [("boil",), ("dip", 0)])
        self.assert_plan(bolt_of(3, [[1]], [0, 1, 2]), [True])

    def test_parts_go_without_a_boiling(self):
        moves = plan(bolt_of(3, [[2], [0, 1, 2], [1, 2]]), [True] * 3)
        self.assertEqual(moves, [("dip", 1), ("wax", (0,)), ("dip", 2), ("wax", (1,)), ("dip", 0)])

    def test_a_spent_pot_that_is_not_needed(self):
        moves = self.assert_plan(bolt_of(2, [[0], [], [1]]), [True, False, True])
        self.assertEqual(boilings_in(moves), 1)

    def test_the_edges_of_a_cell(self):
        bolt = [((8,) * 12, False, (9,) * 12), ((9,) * 12, False, (9,) * 12), ((0,) * 12, True, (0,) * 12)]
        self.assertEqual(len(self.assert_plan(bolt, [True] * 12)), 13)

    def test_drawn_bolts(self):
        for bolt in clean_bolts(41, 8):
            self.assert_plan(bolt, [True] * pots_of(bolt))

    def test_only_the_needed_pots_fresh(self):
        for bolt in clean_bolts(42, 2):
            self.assert_plan(bolt, [dye in lacks_of(bolt) for dye in range(pots_of(bolt))])

    def test_no_row_of_moves_boils_less_often(self):
        for bolt in clean_bolts(43, 5, 5):
            if len(bolt) <= 6:
                moves = self.assert_plan(bolt, [True] * pots_of(bolt))
                self.assertEqual(boilings_in(moves), fewest_boilings(bolt))

    def test_what_is_told_is_new(self):
        bolt, fresh = bolt_of(3, [[0], [1]], [0]), [True, True]
        first = plan(bolt, fresh)
        kept = list(first)
        first.clear()
        self.assertEqual(plan(bolt, fresh), kept)
        self.assertEqual((bolt, fresh), (bolt_of(3, [[0], [1]], [0]), [True, True]))


class BarredPlan(unittest.TestCase):
    def assert_barred(self, bolt, fresh, told):
        kept = copy.deepcopy((bolt, fresh))
        with self.assertRaises(Barred) as caught:
            plan(bolt, fresh)
        self.assertIs(type(caught.exception), Barred)
        self.assertEqual(caught.exception.bars, told)
        caught.exception.bars.clear()
        self.assertEqual((bolt, fresh), kept)
        with self.assertRaises(Barred) as caught:
            plan(bolt, fresh)
        self.assertEqual(caught.exception.bars, told)

    def test_each_word(self):
        self.assert_barred([((1,), False, (0,))], [True], [("spare", 0, 0)])
        self.assert_barred([((0,), False, (2,))], [True], [("deep", 0, 0)])
        self.assert_barred([((0,), False, (1,))], [False], [("spent", 0, 0)])

    def test_all_bars(self):
        self.assert_barred(sample(), [False, True], [
            ("spent", 0, 0), ("deep", 1, 1), ("spare", 2, 0), ("spare", 2, 1),
        ])

    def test_one_bar_among_much_that_could_be_done(self):
        bolt = bolt_of(4, [[0], [1, 2]]) + [((1, 0), True, (0, 0))]
        self.assert_barred(bolt, [True, True], [("spare", 4, 0)])

    def test_drawn_bolts(self):
        barred = 0
        for many, bolt in enumerate(all_bolts(44, 4)):
            fresh = [(many + dye) % 4 > 0 for dye in range(pots_of(bolt))]
            told = bars(bolt, fresh)
            if told:
                barred += 1
                self.assert_barred(bolt, fresh, told)
            else:
                plan(bolt, fresh)
        self.assertGreater(barred, 50)


if __name__ == "__main__":
    unittest.main()
