"""How all stands in a house, and what each deed does to it."""

import copy
import random
import unittest

from drawn import Said, drawn_deed

from waxcloth.bolt import bare
from waxcloth.errors import (
    BadSize, BadWish, NoCell, NoCloth, NoDye, NoName, Spent, StillFresh, Taken, TooDeep, Twice,
)
from waxcloth.stand import behind, new_stand

NO_NAMES = ["", "abcdefghi", "Sail", "saiL", "s1", "1", "a b", " ", "-", "a\n", "_", "s.l"]


def stand_of(pots, *deeds):
    """How all stands behind these deeds."""
    stand = new_stand(pots)
    for deed in deeds:
        stand = behind(stand, deed)
    return stand


def all_of(stand):
    """All that a stand has, as a copy."""
    return copy.deepcopy((stand.fresh, stand.cloths))


def sample():
    """Two pots, the second one spent; "sail" has three cells, wax on 1, shades and wishes; "flag" is like a new one."""
    return stand_of(
        2, ("hang", "sail", 3), ("wax", "sail", (1,)), ("dip", ("sail",), 1), ("wish", "sail", 2, (1, 4)),
        ("hang", "flag", 2),
    )


SAIL = [((0, 1), False, (0, 0)), ((0, 0), True, (0, 0)), ((0, 1), False, (1, 4))]
FLAG = [((0, 0), False, (0, 0)), ((0, 0), False, (0, 0))]


class Deeds(unittest.TestCase):
    def assert_behind(self, stand, deed, fresh, cloths):
        """The deed does this, and the stand handed in stays."""
        kept = all_of(stand)
        told = behind(stand, deed)
        self.assertEqual(all_of(told), (fresh, cloths))
        self.assertEqual(all_of(stand), kept)
        return told

    def assert_refused(self, error, stand, deed):
        """The deed is refused with just this error, and nothing is changed."""
        with self.subTest(str(deed)):
            kept = all_of(stand)
            with self.assertRaises(error) as caught:
                behind(stand, deed)
            self.assertIs(type(caught.exception), error)
            self.assertEqual(all_of(stand), kept)

    def test_the_beginning(self):
        for pots in range(13):
            self.assertEqual(all_of(new_stand(pots)), ([True] * pots, {}))

    def test_the_sample(self):
        self.assertEqual(all_of(sample()), ([True, False], {"sail": SAIL, "flag": FLAG}))


class Hang(Deeds):
    def test_good(self):
        self.assert_behind(sample(), ("hang", "a", 1), [True, False], {
            "sail": SAIL, "flag": FLAG, "a": [((0, 0), False, (0, 0))],
        })
        for pots in (0, 1, 12):
            for size in range(41):
                deed = ("hang", "abcdefgh", size)
                self.assert_behind(new_stand(pots), deed, [True] * pots, {"abcdefgh": bare(pots, size)})

    def test_no_name(self):
        for name in NO_NAMES:
            self.assert_refused(NoName, sample(), ("hang", name, 3))
            self.assert_refused(NoName, sample(), ("hang", name, 41))

    def test_taken(self):
        for name in ("sail", "flag"):
            for size in (3, 0, 41, -1):
                self.assert_refused(Taken, sample(), ("hang", name, size))

    def test_bad_size(self):
        for size in (-1, -40, 41, 42, 999999, 10 ** 20):
            self.assert_refused(BadSize, sample(), ("hang", "a", size))


class Fold(Deeds):
    def test_good(self):
        self.assert_behind(sample(), ("fold", "sail"), [True, False], {"flag": FLAG})
        self.assert_behind(sample(), ("fold", "flag"), [True, False], {"sail": SAIL})

    def test_hung_anew_it_is_a_new_one(self):
        stand = behind(sample(), ("fold", "sail"))
        self.assert_behind(stand, ("hang", "sail", 2), [True, False], {"flag": FLAG, "sail": FLAG})

    def test_no_cloth(self):
        for name in NO_NAMES + ["a", "sails"]:
            self.assert_refused(NoCloth, sample(), ("fold", name))
        self.assert_refused(NoCloth, behind(sample(), ("fold", "sail")), ("fold", "sail"))


class Twin(Deeds):
    def test_good(self):
        self.assert_behind(sample(), ("twin", "sail", "b"), [True, False], {"sail": SAIL, "flag": FLAG, "b": SAIL})

    def test_each_goes_its_own_way(self):
        stand = behind(sample(), ("twin", "sail", "b"))
        for name, other in [("sail", "b"), ("b", "sail")]:
            for deed in [
                ("wax", name, (0, 2)), ("boil", (name,)), ("dip", (name,), 0), ("wish", name, 0, (9, 9)),
                ("fold", name),
            ]:
                told = behind(stand, deed)
                self.assertEqual(told.cloths[other], SAIL)
                self.assertNotEqual(told.cloths.get(name), SAIL)

    def test_no_cloth(self):
        for new in ["b", "sail", "Sail", ""]:
            self.assert_refused(NoCloth, sample(), ("twin", "a", new))
        self.assert_refused(NoCloth, sample(), ("twin", "a", "a"))

    def test_no_name(self):
        for name in NO_NAMES:
            self.assert_refused(NoName, sample(), ("twin", "sail", name))

    def test_taken(self):
        self.assert_refused(Taken, sample(), ("twin", "sail", "sail"))
        self.assert_refused(Taken, sample(), ("twin", "sail", "flag"))


class Wish(Deeds):
    def test_good(self):
        self.assert_behind(sample(), ("wish", "sail", 1, (9, 0)), [True, False], {
            "sail": [SAIL[0], ((0, 0), True, (9, 0)), SAIL[2]], "flag": FLAG,
        })
        self.assert_behind(new_stand(0), ("hang", "a", 1), [], {"a": [((), False, ())]})
        self.assert_behind(stand_of(0, ("hang", "a", 1)), ("wish", "a", 0, ()), [], {"a": [((), False, ())]})

    def test_no_cloth(self):
        self.assert_refused(NoCloth, sample(), ("wish", "a", 0, (1, 1)))
        self.assert_refused(NoCloth, sample(), ("wish", "a", 3, (1, 1)))
        self.assert_refused(NoCloth, sample(), ("wish", "a", 0, (1,)))

    def test_no_cell(self):
        for at in (-1, -3, 3, 4, 10 ** 20):
            self.assert_refused(NoCell, sample(), ("wish", "sail", at, (1, 1)))
            self.assert_refused(NoCell, sample(), ("wish", "sail", at, (1, 1, 1)))
            self.assert_refused(NoCell, sample(), ("wish", "sail", at, (10, 1)))
        self.assert_refused(NoCell, stand_of(2, ("hang", "a", 0)), ("wish", "a", 0, (1, 1)))

    def test_bad_wish(self):
        for wish in [(), (1,), (1, 1, 1), (10, 0), (0, 10), (-1, 0), (0, -1)]:
            self.assert_refused(BadWish, sample(), ("wish", "sail", 0, wish))
        self.assert_refused(BadWish, stand_of(0, ("hang", "a", 1)), ("wish", "a", 0, (0,)))


class Wax(Deeds):
    def test_good(self):
        for cells in [(0,), (0, 1), (1, 0)]:
            self.assert_behind(sample(), ("wax", "sail", cells), [True, False], {
                "sail": [((0, 1), True, (0, 0)), SAIL[1], SAIL[2]], "flag": FLAG,
            })

    def test_no_cells_and_cells_with_wax(self):
        for cells in [(), (1,)]:
            self.assert_behind(sample(), ("wax", "sail", cells), [True, False], {"sail": SAIL, "flag": FLAG})

    def test_no_cloth(self):
        for cells in [(), (0,), (9,), (0, 0)]:
            self.assert_refused(NoCloth, sample(), ("wax", "a", cells))

    def test_no_cell(self):
        for cells in [(3,), (-1,), (0, 3), (3, 0), (0, 0, 3), (3, 0, 0), (3, 3)]:
            self.assert_refused(NoCell, sample(), ("wax", "sail", cells))

    def test_twice(self):
        for cells in [(0, 0), (1, 1), (0, 2, 0)]:
            self.assert_refused(Twice, sample(), ("wax", "sail", cells))


class Dip(Deeds):
    def test_one_cloth(self):
        self.assert_behind(sample(), ("dip", ("sail",), 0), [False, False], {
            "sail": [((1, 1), False, (0, 0)), SAIL[1], ((1, 1), False, (1, 4))], "flag": FLAG,
        })

    def test_several_cloths(self):
        for names in [("sail", "flag"), ("flag", "sail")]:
            self.assert_behind(sample(), ("dip", names, 0), [False, False], {
                "sail": [((1, 1), False, (0, 0)), SAIL[1], ((1, 1), False, (1, 4))],
                "flag": [((1, 0), False, (0, 0))] * 2,
            })

    def test_no_cloth_named_spends_the_pot(self):
        self.assert_behind(sample(), ("dip", (), 0), [False, False], {"sail": SAIL, "flag": FLAG})

    def test_no_dye(self):
        for dye in (-1, -2, 2, 3, 10 ** 20):
            for names in [(), ("sail",), ("a",), ("sail", "sail")]:
                self.assert_refused(NoDye, sample(), ("dip", names, dye))
        self.assert_refused(NoDye, new_stand(0), ("dip", (), 0))

    def test_spent(self):
        for names in [(), ("sail",), ("a",), ("sail", "sail")]:
            self.assert_refused(Spent, sample(), ("dip", names, 1))

    def test_no_cloth(self):
        for names in [("a",), ("sail", "a"), ("a", "sail"), ("sail", "sail", "a"), ("a", "a"), ("",)]:
            self.assert_refused(NoCloth, sample(), ("dip", names, 0))

    def test_twice(self):
        for names in [("sail", "sail"), ("sail", "flag", "sail")]:
            self.assert_refused(Twice, sample(), ("dip", names, 0))

    def deep(self):
        """One pot; "a" has nine shades, "b" none."""
        deeds = [("dip", ("a",), 0), ("brew", 0)] * 9
        return stand_of(1, ("hang", "a", 2), ("hang", "b", 1), *deeds)

    def test_too_deep(self):
        for names in [("a",), ("a", "b"), ("b", "a")]:
            self.assert_refused(TooDeep, self.deep(), ("dip", names, 0))
            self.assert_refused(TooDeep, behind(self.deep(), ("wax", "a", (0,))), ("dip", names, 0))
        self.assert_refused(Twice, self.deep(), ("dip", ("a", "a"), 0))
        self.assert_refused(NoCloth, self.deep(), ("dip", ("a", "c"), 0))
        self.assert_refused(Spent, behind(self.deep(), ("dip", (), 0)), ("dip", ("a",), 0))

    def test_nine_shades_under_wax_or_not_dipped(self):
        stand = behind(self.deep(), ("wax", "a", (0, 1)))
        self.assert_behind(stand, ("dip", ("a", "b"), 0), [False], {
            "a": [((9,), True, (0,))] * 2, "b": [((1,), False, (0,))],
        })
        self.assertEqual(behind(self.deep(), ("dip", ("b",), 0)).cloths["b"], [((1,), False, (0,))])


class Boil(Deeds):
    def test_good(self):
        stand = behind(sample(), ("wax", "flag", (0,)))
        dry = [SAIL[0], ((0, 0), False, (0, 0)), SAIL[2]]
        wet = [((0, 0), True, (0, 0)), ((0, 0), False, (0, 0))]
        self.assert_behind(stand, ("boil", ("sail",)), [True, False], {"sail": dry, "flag": wet})
        self.assert_behind(stand, ("boil", ("flag",)), [True, False], {"sail": SAIL, "flag": FLAG})
        self.assert_behind(stand, ("boil", ("flag", "sail")), [True, False], {"sail": dry, "flag": FLAG})
        self.assert_behind(stand, ("boil", ()), [True, False], {"sail": SAIL, "flag": wet})

    def test_no_cloth(self):
        for names in [("a",), ("sail", "a"), ("a", "sail"), ("sail", "sail", "a"), ("a", "a")]:
            self.assert_refused(NoCloth, sample(), ("boil", names))

    def test_twice(self):
        for names in [("sail", "sail"), ("sail", "flag", "sail")]:
            self.assert_refused(Twice, sample(), ("boil", names))


class Brew(Deeds):
    def test_good(self):
        self.assert_behind(sample(), ("brew", 1), [True, True], {"sail": SAIL, "flag": FLAG})

    def test_no_dye(self):
        for dye in (-1, -2, 2, 10 ** 20):
            self.assert_refused(NoDye, sample(), ("brew", dye))
        self.assert_refused(NoDye, new_stand(0), ("brew", 0))

    def test_still_fresh(self):
        self.assert_refused(StillFresh, sample(), ("brew", 0))
        self.assert_refused(StillFresh, behind(sample(), ("brew", 1)), ("brew", 1))


class Drawn(Deeds):
    def test_drawn_deeds(self):
        """Each deed does or is refused what the document says, and no stand is changed by later deeds."""
        rng = random.Random(81)
        met = set()
        for many in range(150):
            pots = rng.choice([0, 1, 2, 3, 12])
            said, stand, kept = Said(pots), new_stand(pots), []
            # Some begin with a cloth of nine shades, which drawn deeds seldom come to.
            begin = [("hang", "a", 3)] + [("dip", ("a",), 0), ("brew", 0)] * 9 if pots and many < 20 else []
            for at in range(80):
                deed = begin[at] if at < len(begin) else drawn_deed(rng, said)
                error = said.refusal(deed)
                met.add((deed[0], error))
                if error is not None:
                    self.assert_refused(error, stand, deed)
                    continue
                said.do(deed)
                stand = self.assert_behind(stand, deed, said.fresh, said.bolts())
                kept.append((stand, all_of(stand)))
            for one, its in kept:
                self.assertEqual(all_of(one), its)
        # The eight words, and the refusals of each in the order of the document.
        self.assertEqual(len(met), 8 + 3 + 1 + 3 + 3 + 3 + 5 + 2 + 2)


if __name__ == "__main__":
    unittest.main()
