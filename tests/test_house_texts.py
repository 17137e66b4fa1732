"""Houses as texts, and back."""

import random
import unittest

from drawn import all_told, anew, drawn_deed, how_it_stands, said_behind

from waxcloth.errors import BadSize, NoCloth, NoDeed, NoDye, NoHouse, Spent, StillFresh, Taken, TooDeep
from waxcloth.house import House, house_read, house_shown

DEEDS = [
    ("hang", "sail", 3), ("twin", "sail", "flag"), ("wish", "sail", 2, (1, 4)), ("wax", "sail", (1, 0)),
    ("dip", ("sail", "flag"), 1), ("boil", ("sail",)), ("brew", 1), ("wax", "flag", ()), ("dip", (), 0), ("boil", ()),
    ("fold", "flag"),
]
TEXT = (
    "house 2\nhang sail 3\ntwin sail flag\nwish sail 2 14\nwax sail 1 0\ndip 1 sail flag\nboil sail\nbrew 1\n"
    "wax flag\ndip 0\nboil\nfold flag\n"
)


class HouseShown(unittest.TestCase):
    def test_sign_by_sign(self):
        self.assertEqual(house_shown(anew(2, DEEDS)), TEXT)
        house = anew(0, [("hang", "a", 1), ("wish", "a", 0, ())])
        self.assertEqual(house_shown(house), "house 0\nhang a 1\nwish a 0 -\n")

    def test_a_new_house(self):
        for pots in range(13):
            self.assertEqual(house_shown(House(pots)), f"house {pots}\n")

    def test_only_what_counts_is_written(self):
        house = anew(2, DEEDS)
        house.mark("here")
        house.undo()
        house.undo()
        kept = all_told(house)
        self.assertEqual(house_shown(house), TEXT[:-len("boil\nfold flag\n")])
        self.assertEqual(all_told(house), kept)


class HouseRead(unittest.TestCase):
    def assert_refused(self, error, text):
        with self.subTest(repr(text)):
            with self.assertRaises(error) as caught:
                house_read(text)
            self.assertIs(type(caught.exception), error)

    def assert_same(self, house, pots):
        """What is read tells the same, without marks and with nothing to do again, and goes back deed by deed."""
        told = house_read(house_shown(house))
        self.assertIs(type(told), House)
        self.assertEqual(how_it_stands(told), how_it_stands(house))
        self.assertEqual((told.ahead(), told.marks()), ([], []))
        self.assertEqual(house_shown(told), house_shown(house))
        book = house.book()
        for many in reversed(range(len(book))):
            self.assertEqual(told.undo(), book[many])
            self.assertEqual(how_it_stands(told), how_it_stands(anew(pots, book[:many])))
        self.assertEqual(told.ahead(), book)
        self.assertEqual(told.ready(), list(range(pots)))

    def test_back_to_the_same(self):
        for pots in range(13):
            self.assert_same(House(pots), pots)
        self.assert_same(anew(2, DEEDS), 2)
        self.assertEqual(how_it_stands(house_read(TEXT)), how_it_stands(anew(2, DEEDS)))

    def test_marks_and_what_can_be_done_again_are_not_read(self):
        house = anew(2, DEEDS)
        house.mark("here")
        house.undo()
        self.assert_same(house, 2)
        self.assertEqual((house.marks(), house.ahead()), ([("here", 11)], [("fold", "flag")]))

    def test_drawn_houses(self):
        rng = random.Random(131)
        for pots in [0, 1, 2, 3, 12] * 4:
            house = House(pots)
            for many in range(40):
                said = said_behind(pots, house.book())
                deed = drawn_deed(rng, said)
                if said.refusal(deed) is None:
                    house.do(deed)
            self.assert_same(house, pots)

    def test_each_reading_is_a_house_of_its_own(self):
        one, other = house_read(TEXT), house_read(TEXT)
        one.undo()
        one.do(("hang", "new", 1))
        one.mark("here")
        self.assertEqual(all_told(other), all_told(anew(2, DEEDS)))

    def test_no_house(self):
        for text in [
            "", "\n", "\n\n", "house", "house\n", "house 2", "house 2 ", "house 13\n", "house 14\n", "house 999999\n",
            "house 01\n", "house 00\n", "house -1\n", "house -0\n", "house +1\n", "house  2\n", " house 2\n",
            "house 2 \n", "house 2 3\n", "2 house\n", "House 2\n", "houses 2\n", "hous 2\n", "2\n", "house two\n",
            "house\n2\n",
            "\nhouse 2\n", "house \n", "house2\n", "bolt 2 0\n", "boil\n", "house -\n", "house 1000000\n",
            "house \u0662\n", "house 2\t\n", "house 2\r\n", "house 1_0\n", "house 1.0\n",
        ]:
            self.assert_refused(NoHouse, text)

    def test_no_house_ahead_of_all_else(self):
        for rest in ["burn\n", "boil", "fold sail\n", "\n", "hang sail 3\n"]:
            for head in ["house 13", "house 01", "house  2", "house", "", "hang sail 3"]:
                self.assert_refused(NoHouse, head + "\n" + rest)

    def test_no_deed_ahead_of_any_deed(self):
        for rest in [
            "burn\n", "boil", "\n", "boil\n\n", "fold sail\nburn\n", "hang sail 3\nhang sail 3\nhang sail\n",
            "fold sail\nboil", "brew 0\nbrew 00\n", "fold sail\n\n", " boil\n", "house 2\n",
        ]:
            self.assert_refused(NoDeed, "house 2\n" + rest)

    def test_the_first_refused_deed_s_refusal(self):
        for error, rest in [
            (NoCloth, "fold sail\nbrew 0\n"), (StillFresh, "brew 0\nfold sail\n"), (Taken, "hang a 1\nhang a 1\n"),
            (BadSize, "hang a 41\n"), (Spent, "dip 0\ndip 0\ndip 7\n"), (NoDye, "boil\ndip 2\ndip 0\n"),
            (TooDeep, "hang a 1\n" + "dip 0 a\nbrew 0\n" * 9 + "dip 0 a\nboil b\n"),
        ]:
            self.assert_refused(error, "house 2\n" + rest)


if __name__ == "__main__":
    unittest.main()
