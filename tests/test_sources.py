"""Which dip gave a cell each of its shades."""

import random
import unittest

from drawn import all_told, anew, drawn_deed, said_behind

from waxcloth.errors import NoCell, NoCloth, NoDye, Spent
from waxcloth.house import House

DEEDS = [
    ("hang", "sail", 2),            # 0
    ("dip", ("sail",), 0),          # 1: both cells
    ("wax", "sail", (1,)),          # 2
    ("dip", ("sail",), 1),          # 3: cell 0
    ("brew", 0),                    # 4
    ("twin", "sail", "flag"),       # 5
    ("dip", ("flag", "sail"), 0),   # 6: cell 0 of both
    ("boil", ("flag",)),            # 7
    ("brew", 0),                    # 8
    ("brew", 1),                    # 9
    ("dip", ("flag",), 0),          # 10: both cells of flag
    ("dip", (), 1),                 # 11: none
]


class Sources(unittest.TestCase):
    def assert_refused(self, error, house, *asked):
        with self.subTest(str(asked)):
            kept = all_told(house)
            with self.assertRaises(error) as caught:
                house.sources(*asked)
            self.assertIs(type(caught.exception), error)
            self.assertEqual(all_told(house), kept)

    def assert_sources(self, house, pots):
        """For each shade of each cell, what the document says of the book; all of it is told in new lists."""
        said = said_behind(pots, house.book())
        kept = all_told(house)
        for name, cells in said.cloths.items():
            for at, cell in enumerate(cells):
                for dye in range(pots):
                    told = house.sources(name, at, dye)
                    self.assertIs(type(told), list)
                    self.assertEqual(told, cell["dips"][dye])
                    self.assertEqual(len(told), house.stains(name)[at][dye])
                    told.append(None)
                    self.assertEqual(house.sources(name, at, dye), cell["dips"][dye])
        self.assertEqual(all_told(house), kept)

    def test_each_place(self):
        house = anew(2, DEEDS)
        self.assertEqual(
            [house.sources("sail", at, dye) for at in (0, 1) for dye in (0, 1)], [[1, 6], [3], [1], []],
        )
        self.assertEqual(
            [house.sources("flag", at, dye) for at in (0, 1) for dye in (0, 1)], [[1, 6, 10], [3], [1, 10], []],
        )

    def test_behind_each_deed_and_back_again(self):
        house = House(2)
        for deed in DEEDS:
            house.do(deed)
            self.assert_sources(house, 2)
        for deed in DEEDS:
            house.undo()
            self.assert_sources(house, 2)
        for deed in DEEDS:
            house.redo()
            self.assert_sources(house, 2)

    def test_a_name_folded_and_hung_anew(self):
        house = anew(2, DEEDS + [("fold", "sail"), ("hang", "sail", 2)])
        self.assertEqual([house.sources("sail", at, dye) for at in (0, 1) for dye in (0, 1)], [[], [], [], []])
        house.do(("brew", 0))
        house.do(("dip", ("sail",), 0))
        self.assertEqual(house.sources("sail", 0, 0), [15])
        self.assertEqual(house.sources("flag", 0, 0), [1, 6, 10])

    def test_the_first_of_twins_folded(self):
        house = anew(2, DEEDS + [("fold", "sail")])
        self.assertEqual(house.sources("flag", 0, 0), [1, 6, 10])
        house.do(("twin", "flag", "sail"))
        house.do(("fold", "flag"))
        house.do(("twin", "sail", "flag"))
        self.assertEqual(house.sources("flag", 0, 0), [1, 6, 10])
        self.assertEqual(house.sources("sail", 1, 0), [1, 10])

    def test_nine_shades(self):
        house = anew(1, [("hang", "a", 1)] + [("dip", ("a",), 0), ("brew", 0)] * 9)
        self.assertEqual(house.sources("a", 0, 0), list(range(1, 19, 2)))

    def test_a_refused_dip_gives_nothing(self):
        house = anew(1, [("hang", "a", 1), ("dip", ("a",), 0)])
        with self.assertRaises(Spent):
            house.do(("dip", ("a",), 0))
        self.assertEqual(house.sources("a", 0, 0), [1])

    def test_refusals_in_their_order(self):
        house = anew(2, DEEDS)
        for name in ("none", "", "Sail"):
            for at in (0, -1, 2):
                for dye in (0, -1, 2):
                    self.assert_refused(NoCloth, house, name, at, dye)
        for at in (-1, -2, 2, 10 ** 20):
            for dye in (0, -1, 2):
                self.assert_refused(NoCell, house, "sail", at, dye)
        for dye in (-1, -2, 2, 12, 10 ** 20):
            self.assert_refused(NoDye, house, "sail", 0, dye)
        self.assert_refused(NoDye, anew(0, [("hang", "a", 1)]), "a", 0, 0)
        self.assert_refused(NoCell, anew(1, [("hang", "a", 0)]), "a", 0, 0)

    def test_drawn_houses(self):
        rng = random.Random(121)
        shades = 0
        for pots in [1, 2, 3, 12] * 12:
            house = House(pots)
            for many in range(50):
                said = said_behind(pots, house.book())
                deed = drawn_deed(rng, said)
                if said.refusal(deed) is None:
                    house.do(deed)
                elif house.book() and rng.random() < 0.3:
                    house.undo()
                elif house.ahead() and rng.random() < 0.5:
                    house.redo()
            self.assert_sources(house, pots)
            shades += sum([sum(picture) for name in house.names() for picture in house.stains(name)])
        self.assertGreater(shades, 200)


if __name__ == "__main__":
    unittest.main()
