"""A house: its deeds, the book, takings back, doings again, and marks."""

import random
import unittest

from drawn import all_told, anew, drawn_deed, how_it_stands, said_behind

from waxcloth.errors import (
    BadSize, BadWish, NoCell, NoCloth, NoDye, NoMark, NoName, NothingLeft, Spent, StillFresh, Taken, TooDeep, Twice,
)
from waxcloth.house import House

NO_NAMES = ["", "abcdefghi", "Sail", "saiL", "s1", "1", "a b", " ", "-", "a\n", "_", "s.l"]
SAMPLE = [
    ("hang", "sail", 3), ("wax", "sail", (1,)), ("dip", ("sail",), 1), ("wish", "sail", 2, (1, 4)), ("hang", "flag", 2),
]


def sample():
    """Two pots, the second one spent; two cloths; two deeds that can be done again; marks on both sides of the book."""
    house = anew(2, SAMPLE)
    house.mark("here")
    house.do(("wax", "flag", (0,)))
    house.do(("boil", ("sail", "flag")))
    house.mark("beyond")
    house.undo()
    house.undo()
    return house


class Houses(unittest.TestCase):
    def assert_refused(self, error, house, do):
        """It is refused with just this error, and all that the house tells is as it was."""
        kept = all_told(house)
        with self.assertRaises(error) as caught:
            do()
        self.assertIs(type(caught.exception), error)
        self.assertEqual(all_told(house), kept)

    def assert_deed_refused(self, error, deed, house=None):
        house = house or sample()
        with self.subTest(str(deed)):
            self.assert_refused(error, house, lambda: house.do(deed))
            # What could be done again still can be.
            ahead = house.ahead()
            self.assertEqual([house.redo() for deed in ahead], ahead)

    def assert_stands(self, house, pots):
        """All that the house tells is what the document says of its book."""
        said = said_behind(pots, house.book())
        bolts = said.bolts()
        self.assertEqual(house.names(), sorted(bolts))
        self.assertEqual(house.ready(), [dye for dye in range(pots) if said.fresh[dye]])
        for name, bolt in bolts.items():
            self.assertEqual(house.stains(name), [cell[0] for cell in bolt])
            self.assertEqual(house.waxed(name), [at for at, cell in enumerate(bolt) if cell[1]])
            self.assertEqual(house.wishes(name), [cell[2] for cell in bolt])
            self.assertEqual(house.bolt([name]), bolt)


class NewHouse(Houses):
    def test_all_that_it_tells(self):
        for pots in (0, 1, 2, 12):
            self.assertEqual(all_told(House(pots)), {
                "names": [], "ready": list(range(pots)), "book": [], "ahead": [], "marks": [], "stains": [],
                "wishes": [], "waxed": [], "bolt": [], "hindered": [], "boilings": 0, "held": [12],
            })
            self.assertEqual(House(pots).plan([]), [])
            self.assertEqual(House(pots).would([], []), 0)

    def test_what_it_refuses(self):
        for pots in (0, 1, 12):
            house = House(pots)
            for do in (house.stains, house.wishes, house.waxed):
                self.assert_refused(NoCloth, house, lambda: do("sail"))
            for do in (house.bolt, house.hindered, house.plan, house.boilings, house.held):
                self.assert_refused(NoCloth, house, lambda: do(["sail"]))
            self.assert_refused(NoCloth, house, lambda: house.sources("sail", 0, 0))
            self.assert_refused(NothingLeft, house, house.undo)
            self.assert_refused(NothingLeft, house, house.redo)
            self.assert_refused(NoMark, house, lambda: house.go("here"))
            self.assert_deed_refused(NoDye, ("dip", (), pots), house)
            self.assert_deed_refused(NoDye, ("brew", pots), house)

    def test_no_two_houses_share_anything(self):
        one, other = House(2), House(2)
        one.do(("hang", "sail", 3))
        one.do(("dip", (), 0))
        one.mark("here")
        self.assertEqual(all_told(other), all_told(House(2)))


class Deeds(Houses):
    def test_the_sample(self):
        house = sample()
        self.assertEqual(house.book(), SAMPLE)
        self.assertEqual(house.ahead(), [("wax", "flag", (0,)), ("boil", ("sail", "flag"))])
        self.assertEqual(house.marks(), [("beyond", 7), ("here", 5)])
        self.assertEqual(house.names(), ["flag", "sail"])
        self.assertEqual(house.ready(), [0])
        self.assertEqual(house.stains("sail"), [(0, 1), (0, 0), (0, 1)])
        self.assertEqual(house.wishes("sail"), [(0, 0), (0, 0), (1, 4)])
        self.assertEqual(house.waxed("sail"), [1])
        self.assertEqual(house.stains("flag"), [(0, 0), (0, 0)])
        self.assertEqual(house.waxed("flag"), [])

    def test_good_deeds(self):
        for deed in [
            ("hang", "a", 0), ("hang", "abcdefgh", 40), ("fold", "sail"), ("twin", "sail", "b"),
            ("wish", "sail", 0, (9, 0)), ("wax", "sail", ()), ("wax", "sail", (2, 0)), ("wax", "sail", (1,)),
            ("dip", (), 0), ("dip", ("sail",), 0), ("dip", ("flag", "sail"), 0), ("boil", ()), ("boil", ("sail",)),
            ("boil", ("flag", "sail")), ("brew", 1),
        ]:
            with self.subTest(str(deed)):
                house = sample()
                self.assertIsNone(house.do(deed))
                self.assertEqual(house.book(), SAMPLE + [deed])
                self.assertEqual(house.ahead(), [])
                self.assert_stands(house, 2)

    def test_what_a_dip_does(self):
        house = sample()
        house.do(("dip", ("sail", "flag"), 0))
        self.assertEqual(house.stains("sail"), [(1, 1), (0, 0), (1, 1)])
        self.assertEqual(house.stains("flag"), [(1, 0), (1, 0)])
        self.assertEqual(house.ready(), [])

    def test_a_dip_of_none_spends_the_pot(self):
        house = sample()
        house.do(("dip", (), 0))
        self.assertEqual(house.ready(), [])
        self.assertEqual(house.stains("sail"), [(0, 1), (0, 0), (0, 1)])
        self.assert_deed_refused(Spent, ("dip", (), 0), house)
        house.do(("brew", 0))
        self.assertEqual(house.ready(), [0])

    def test_a_boiling(self):
        house = sample()
        house.do(("wax", "flag", (0,)))
        house.do(("boil", ()))
        self.assertEqual((house.waxed("sail"), house.waxed("flag")), ([1], [0]))
        house.do(("boil", ("sail", "flag")))
        self.assertEqual((house.waxed("sail"), house.waxed("flag")), ([], []))

    def test_twins_go_their_own_ways(self):
        house = sample()
        house.do(("twin", "sail", "b"))
        self.assertEqual(house.bolt(["b"]), house.bolt(["sail"]))
        kept = house.bolt(["b"])
        for deed in [("wax", "sail", (0,)), ("wish", "sail", 0, (3, 3)), ("dip", ("sail",), 0), ("boil", ("sail",))]:
            house.do(deed)
            self.assertEqual(house.bolt(["b"]), kept)
            self.assertNotEqual(house.bolt(["sail"]), kept)
        kept = house.bolt(["sail"])
        house.do(("wax", "b", (2, 0)))
        house.do(("fold", "b"))
        self.assertEqual(house.bolt(["sail"]), kept)
        house.do(("twin", "sail", "b"))
        house.do(("fold", "sail"))
        self.assertEqual(house.bolt(["b"]), kept)

    def test_hang(self):
        for name in NO_NAMES:
            self.assert_deed_refused(NoName, ("hang", name, 3))
            self.assert_deed_refused(NoName, ("hang", name, 41))
        for size in (3, -1, 41):
            self.assert_deed_refused(Taken, ("hang", "sail", size))
        for size in (-1, 41, 10 ** 20):
            self.assert_deed_refused(BadSize, ("hang", "a", size))

    def test_fold(self):
        for name in NO_NAMES + ["a"]:
            self.assert_deed_refused(NoCloth, ("fold", name))

    def test_twin(self):
        for new in ["b", "", "Sail", "flag", "sail"]:
            self.assert_deed_refused(NoCloth, ("twin", "a", new))
        for new in NO_NAMES:
            self.assert_deed_refused(NoName, ("twin", "sail", new))
        for new in ("sail", "flag"):
            self.assert_deed_refused(Taken, ("twin", "sail", new))

    def test_wish(self):
        for at, wish in [(0, (1, 1)), (3, (1, 1)), (0, (1,)), (-1, (10, 0))]:
            self.assert_deed_refused(NoCloth, ("wish", "a", at, wish))
        for at in (-1, 3, 10 ** 20):
            for wish in [(1, 1), (1,), (0, 10)]:
                self.assert_deed_refused(NoCell, ("wish", "sail", at, wish))
        for wish in [(), (1,), (1, 1, 1), (10, 0), (0, -1)]:
            self.assert_deed_refused(BadWish, ("wish", "sail", 0, wish))

    def test_wax(self):
        for cells in [(), (0,), (3,), (0, 0)]:
            self.assert_deed_refused(NoCloth, ("wax", "a", cells))
        for cells in [(3,), (-1,), (0, 0, 3), (3, 3)]:
            self.assert_deed_refused(NoCell, ("wax", "sail", cells))
        for cells in [(0, 0), (1, 2, 1)]:
            self.assert_deed_refused(Twice, ("wax", "sail", cells))

    def test_dip(self):
        for names in [(), ("sail",), ("a",), ("sail", "sail")]:
            for dye in (-1, 2, 10 ** 20):
                self.assert_deed_refused(NoDye, ("dip", names, dye))
            self.assert_deed_refused(Spent, ("dip", names, 1))
        for names in [("a",), ("sail", "a"), ("sail", "sail", "a")]:
            self.assert_deed_refused(NoCloth, ("dip", names, 0))
        self.assert_deed_refused(Twice, ("dip", ("sail", "flag", "sail"), 0))

    def test_dip_too_deep(self):
        deeds = [("hang", "sail", 2), ("hang", "flag", 1)] + [("dip", ("sail",), 0), ("brew", 0)] * 9
        for names, error in [
            (("sail",), TooDeep), (("flag", "sail"), TooDeep), (("sail", "sail"), Twice), (("sail", "a"), NoCloth),
        ]:
            self.assert_deed_refused(error, ("dip", names, 0), anew(1, deeds))
        self.assert_deed_refused(Spent, ("dip", ("sail",), 0), anew(1, deeds[:-1]))
        house = anew(1, deeds)
        house.do(("wax", "sail", (0, 1)))
        house.do(("dip", ("sail", "flag"), 0))
        self.assertEqual((house.stains("sail"), house.stains("flag")), ([(9,), (9,)], [(1,)]))

    def test_boil(self):
        for names in [("a",), ("sail", "a"), ("sail", "sail", "a")]:
            self.assert_deed_refused(NoCloth, ("boil", names))
        self.assert_deed_refused(Twice, ("boil", ("sail", "flag", "sail")))

    def test_brew(self):
        for dye in (-1, 2, 10 ** 20):
            self.assert_deed_refused(NoDye, ("brew", dye))
        self.assert_deed_refused(StillFresh, ("brew", 0))

    def test_stains_wishes_waxed_of_no_cloth(self):
        house = sample()
        for name in NO_NAMES + ["a"]:
            for do in (house.stains, house.wishes, house.waxed):
                self.assert_refused(NoCloth, house, lambda: do(name))


class Book(Houses):
    def test_back_and_again(self):
        house = anew(2, SAMPLE)
        kept = [how_it_stands(anew(2, SAMPLE[:many])) for many in range(6)]
        for many in (5, 4, 3, 2, 1):
            self.assertEqual(house.undo(), SAMPLE[many - 1])
            self.assertEqual(how_it_stands(house), kept[many - 1])
            self.assertEqual(house.ahead(), SAMPLE[many - 1:])
        self.assert_refused(NothingLeft, house, house.undo)
        for many in range(1, 6):
            self.assertEqual(house.redo(), SAMPLE[many - 1])
            self.assertEqual(how_it_stands(house), kept[many])
            self.assertEqual(house.ahead(), SAMPLE[many:])
        self.assert_refused(NothingLeft, house, house.redo)

    def test_a_new_deed_lets_go_of_what_could_be_done_again(self):
        house = sample()
        house.do(("boil", ()))
        self.assertEqual(house.ahead(), [])
        self.assert_refused(NothingLeft, house, house.redo)
        self.assertEqual(house.undo(), ("boil", ()))
        self.assertEqual(house.ahead(), [("boil", ())])

    def test_the_same_deed_as_the_next_one_is_a_new_deed(self):
        house = sample()
        house.do(house.ahead()[0])
        self.assertEqual(house.ahead(), [])
        self.assertEqual(house.marks(), [("here", 5)])

    def test_a_refused_deed_lets_go_of_nothing(self):
        house = sample()
        self.assert_refused(Taken, house, lambda: house.do(("hang", "sail", 3)))
        self.assertEqual(house.redo(), ("wax", "flag", (0,)))
        self.assertEqual(house.redo(), ("boil", ("sail", "flag")))


class Marks(Houses):
    def test_words(self):
        house = sample()
        for word in NO_NAMES:
            self.assert_refused(NoName, house, lambda: house.mark(word))
        for word in ["a", "z", "abcdefgh"]:
            self.assertIsNone(house.mark(word))
        self.assertEqual(house.marks(), [("a", 5), ("abcdefgh", 5), ("beyond", 7), ("here", 5), ("z", 5)])

    def test_no_mark(self):
        house = sample()
        for word in NO_NAMES + ["a", "her", "heres"]:
            self.assert_refused(NoMark, house, lambda: house.go(word))

    def test_the_same_word_put_again(self):
        house = sample()
        house.undo()
        house.mark("beyond")
        self.assertEqual(house.marks(), [("beyond", 4), ("here", 5)])
        house.redo()
        house.redo()
        house.mark("beyond")
        house.mark("beyond")
        self.assertEqual(house.marks(), [("beyond", 6), ("here", 5)])

    def test_going_lets_go_of_nothing(self):
        house = sample()
        house.undo()
        house.mark("early")
        deeds = house.book() + house.ahead()
        for word, many in [("beyond", 7), ("here", 5), ("early", 4), ("beyond", 7), ("beyond", 7), ("early", 4)]:
            self.assertIsNone(house.go(word))
            self.assertEqual(house.book(), deeds[:many])
            self.assertEqual(house.ahead(), deeds[many:])
            self.assertEqual(house.marks(), [("beyond", 7), ("early", 4), ("here", 5)])
            self.assertEqual(how_it_stands(house), how_it_stands(anew(2, deeds[:many])))

    def test_a_mark_beyond_the_book_goes_away_at_a_new_deed(self):
        house = sample()
        house.do(("boil", ()))
        self.assertEqual(house.marks(), [("here", 5)])
        self.assert_refused(NoMark, house, lambda: house.go("beyond"))

    def test_a_mark_at_its_place_or_ahead_stays(self):
        house = sample()
        house.go("beyond")
        house.undo()
        house.mark("last")
        house.redo()
        house.do(("boil", ()))
        self.assertEqual(house.marks(), [("beyond", 7), ("here", 5), ("last", 6)])
        house.go("last")
        house.do(("boil", ()))
        self.assertEqual(house.marks(), [("here", 5), ("last", 6)])

    def test_marks_of_an_empty_book(self):
        house = House(1)
        house.mark("nought")
        house.go("nought")
        house.do(("hang", "a", 1))
        house.do(("dip", ("a",), 0))
        house.go("nought")
        self.assertEqual((house.book(), len(house.ahead()), house.marks()), ([], 2, [("nought", 0)]))
        house.do(("boil", ()))
        self.assertEqual(house.marks(), [("nought", 0)])


class Drawn(Houses):
    def drawn_turn(self, rng, house, said):
        """Something drawn is done with the house and with what the document says of it."""
        turn = rng.choice(["do"] * 8 + ["undo", "undo", "redo", "redo", "mark", "go"])
        if turn == "do":
            deed = drawn_deed(rng, said_behind(said["pots"], said["book"]))
            error = said_behind(said["pots"], said["book"]).refusal(deed)
            if error is not None:
                self.assert_refused(error, house, lambda: house.do(deed))
                return
            self.assertIsNone(house.do(deed))
            said["marks"] = {word: many for word, many in said["marks"].items() if many <= len(said["book"])}
            said["book"], said["ahead"] = said["book"] + [deed], []
        elif turn == "mark":
            word = rng.choice(["a", "b", "c"])
            house.mark(word)
            said["marks"][word] = len(said["book"])
        elif turn == "go":
            word = rng.choice(["a", "b", "c"])
            if word not in said["marks"]:
                self.assert_refused(NoMark, house, lambda: house.go(word))
                return
            house.go(word)
            deeds, many = said["book"] + said["ahead"], said["marks"][word]
            said["book"], said["ahead"] = deeds[:many], deeds[many:]
        elif not said["book" if turn == "undo" else "ahead"]:
            self.assert_refused(NothingLeft, house, house.undo if turn == "undo" else house.redo)
        else:
            deeds, many = said["book"] + said["ahead"], len(said["book"])
            self.assertEqual(house.undo() if turn == "undo" else house.redo(), deeds[many - (turn == "undo")])
            many += -1 if turn == "undo" else 1
            said["book"], said["ahead"] = deeds[:many], deeds[many:]

    def test_against_a_house_made_anew_by_its_book(self):
        rng = random.Random(91)
        for pots in [0, 1, 2, 3, 12] * 12:
            house, said = House(pots), {"pots": pots, "book": [], "ahead": [], "marks": {}}
            for many in range(60):
                self.drawn_turn(rng, house, said)
                self.assertEqual(house.book(), said["book"])
                self.assertEqual(house.ahead(), said["ahead"])
                self.assertEqual(house.marks(), sorted(said["marks"].items()))
                self.assert_stands(house, pots)
                self.assertEqual(how_it_stands(house), how_it_stands(anew(pots, said["book"])))


class Handed(Houses):
    def test_every_list_that_is_told(self):
        house = sample()
        kept = all_told(house)
        for do in (
            house.book, house.ahead, house.marks, house.names, house.ready, lambda: house.stains("sail"),
            lambda: house.wishes("sail"), lambda: house.waxed("sail"), lambda: house.bolt(["sail", "flag"]),
            lambda: house.bolt(["sail"]), lambda: house.bolt([]), lambda: house.hindered(["sail"]),
            lambda: house.held(["sail"]), lambda: house.held([]), lambda: house.plan(["flag"]), lambda: house.plan([]),
        ):
            first, again = do(), do()
            self.assertIs(type(first), list)
            first.append(None)
            first.reverse()
            self.assertEqual(do(), again)
            first.clear()
            self.assertEqual(do(), again)
            self.assertEqual(all_told(house), kept)

    def test_nothing_within_can_be_changed(self):
        house = sample()
        for told in (house.book(), house.ahead(), house.marks(), house.stains("sail"), house.wishes("sail"),
                     house.bolt(["sail", "flag"]), house.hindered(["sail"])):
            self.assertTrue(told)
            self.assertEqual({type(one) for one in told}, {tuple})
        for stain, waxed, wish in house.bolt(["sail", "flag"]):
            self.assertEqual([type(stain), type(waxed), type(wish)], [tuple, bool, tuple])

    def test_the_lists_handed_in_stay_and_are_not_kept(self):
        house = sample()
        names, deeds = ["sail", "flag"], [("wax", "flag", (0,))]
        kept = all_told(house)
        told = [house.bolt(names), house.hindered(names), house.boilings(names), house.held(names)]
        told.append(house.would(deeds, names))
        self.assertEqual((names, deeds), (["sail", "flag"], [("wax", "flag", (0,))]))
        names.clear()
        deeds.clear()
        self.assertEqual(all_told(house), kept)
        names = ["sail", "flag"]
        self.assertEqual(told[:4], [house.bolt(names), house.hindered(names), house.boilings(names), house.held(names)])


if __name__ == "__main__":
    unittest.main()
