"""Named cloths as one bolt: their bars, plans, boilings and members, and what would be."""

import random
import unittest

from drawn import all_bolts, all_told, anew, bolt_of, clean_bolts, deeds_for, fewest_boilings, lacks_of, parted, pots_of

from waxcloth import needs, sharing
from waxcloth.errors import Barred, NoCell, NoCloth, NoDye, Spent, Taken, Twice
from waxcloth.order import apart

# Two pots, the first one spent; sail's cells are in each way of [5], flag's lack dye 1, cap has none.
BOLTS = {
    "sail": [((0, 1), False, (0, 0)), ((0, 0), True, (1, 2)), ((1, 0), False, (1, 1))],
    "flag": [((0, 0), False, (0, 1)), ((2, 2), False, (3, 2))],
    "cap": [],
}
FRESH = [False, True]


def sample():
    return anew(2, deeds_for(BOLTS, FRESH))


def clean():
    """Three fresh pots; three cloths without a bar, which take one boiling together."""
    return anew(3, deeds_for({
        "sail": [((0, 0, 4), False, (1, 0, 4)), ((0, 0, 0), False, (1, 1, 0))],
        "cap": [],
        "flag": [((0, 0, 0), True, (0, 0, 1)), ((3, 9, 8), False, (3, 9, 8))],
    }, [True] * 3))


def boilings_in(deeds):
    return len([deed for deed in deeds if deed[0] == "boil"])


class Together(unittest.TestCase):
    def assert_refused(self, error, house, do):
        """It is refused with just this error, and all that the house tells is as it was."""
        kept = all_told(house)
        with self.assertRaises(error) as caught:
            do()
        self.assertIs(type(caught.exception), error)
        self.assertEqual(all_told(house), kept)
        return caught.exception

    def questions(self, house):
        return [
            house.bolt, house.hindered, house.plan, house.boilings, house.held, lambda names: house.would([], names),
        ]


class Names(Together):
    def test_no_cloth(self):
        for house in (sample(), clean()):
            for do in self.questions(house):
                for names in [["a"], ["sail", "a"], ["a", "sail"], [""], ["Sail"], ["sail "]]:
                    self.assert_refused(NoCloth, house, lambda: do(names))

    def test_no_cloth_ahead_of_twice(self):
        for house in (sample(), clean()):
            for do in self.questions(house):
                for names in [["a", "a"], ["sail", "sail", "a"], ["a", "sail", "sail"], ["sail", "a", "sail"]]:
                    self.assert_refused(NoCloth, house, lambda: do(names))

    def test_twice(self):
        """Where there are bars, too."""
        for house in (sample(), clean()):
            for do in self.questions(house):
                for names in [["sail", "sail"], ["sail", "flag", "sail"], ["cap", "cap"], ["flag", "sail", "sail"]]:
                    self.assert_refused(Twice, house, lambda: do(names))


class Bolt(Together):
    def test_none_one_and_several(self):
        house = sample()
        self.assertEqual(house.bolt([]), [])
        for name, bolt in BOLTS.items():
            self.assertEqual(house.bolt([name]), bolt)
        for one in BOLTS:
            for other in BOLTS:
                if one != other:
                    self.assertEqual(house.bolt([one, other]), BOLTS[one] + BOLTS[other])
        self.assertEqual(house.bolt(["flag", "cap", "sail"]), BOLTS["flag"] + BOLTS["sail"])

    def test_drawn_bolts(self):
        rng = random.Random(101)
        for bolt in all_bolts(102, 1):
            bolts = parted(rng, bolt[:40], ["b", "a", "c"])
            house = anew(pots_of(bolt), deeds_for(bolts, [True] * pots_of(bolt)))
            names = ["b", "a", "c"]
            self.assertEqual(house.bolt(names), bolt)
            rng.shuffle(names)
            self.assertEqual(house.bolt(names), [cell for name in names for cell in bolts[name]])


class Hindered(Together):
    SAIL = [
        ("spare", "sail", 0, 1), ("spent", "sail", 1, 0), ("deep", "sail", 1, 1),
    ]
    FLAG = [("spent", "flag", 1, 0)]

    def test_none_one_and_several(self):
        house = sample()
        self.assertEqual(house.hindered([]), [])
        self.assertEqual(house.hindered(["cap"]), [])
        self.assertEqual(house.hindered(["sail"]), self.SAIL)
        self.assertEqual(house.hindered(["flag"]), self.FLAG)
        self.assertEqual(house.hindered(["sail", "flag"]), self.SAIL + self.FLAG)
        self.assertEqual(house.hindered(["flag", "sail"]), self.FLAG + self.SAIL)
        self.assertEqual(house.hindered(["cap", "flag", "sail"]), self.FLAG + self.SAIL)
        self.assertEqual(clean().hindered(["sail", "flag", "cap"]), [])

    def test_a_brew_and_a_dip_change_it(self):
        house = sample()
        house.do(("brew", 0))
        self.assertEqual(house.hindered(["flag"]), [])
        house.do(("dip", (), 1))
        self.assertEqual(house.hindered(["flag"]), [("spent", "flag", 0, 1)])

    def test_barred_bears_them(self):
        house = sample()
        for names in [["sail"], ["sail", "flag"], ["flag", "sail"], ["cap", "flag"]]:
            for many in range(2):
                error = self.assert_refused(Barred, house, lambda: house.plan(names))
                self.assertEqual(error.bars, house.hindered(names))
                error.bars.clear()

    def test_drawn_bolts(self):
        rng = random.Random(103)
        for bolt in all_bolts(104, 1):
            pots = pots_of(bolt)
            fresh = [rng.random() < 0.7 for dye in range(pots)]
            house = anew(pots, deeds_for(parted(rng, bolt[:40], ["b", "a"]), fresh))
            self.assertEqual(house.ready(), [dye for dye in range(pots) if fresh[dye]])
            for names in [["b", "a"], ["a", "b"], ["a"], ["b"], []]:
                told = house.hindered(names)
                self.assertEqual(told, [
                    (word, name, at, dye) for name in names
                    for word, at, dye in needs.bars(house.bolt([name]), fresh)
                ])
                if told:
                    error = self.assert_refused(Barred, house, lambda: house.plan(names))
                    self.assertEqual(error.bars, told)
                else:
                    house.plan(names)


class Plan(Together):
    def assert_wax(self, house, names, deed):
        """A wax deed is for one of the cloths, with one cell or more, rising, none of which bears wax."""
        word, name, cells = deed
        self.assertIn(name, names)
        self.assertIs(type(cells), tuple)
        self.assertTrue(cells)
        self.assertEqual(list(cells), sorted(set(cells)))
        self.assertFalse(set(cells) & set(house.waxed(name)))

    def assert_plan(self, house, names):
        """All that [16] and [17] say of a plan; the house goes back to where it was."""
        kept, before = list(names), all_told(house)
        deeds = house.plan(names)
        self.assertEqual((names, all_told(house)), (kept, before))
        self.assertIs(type(deeds), list)
        self.assertEqual(house.plan(names), deeds)
        lacks = lacks_of(house.bolt(names))
        self.assertEqual(sorted([deed[2] for deed in deeds if deed[0] == "dip"]), sorted(lacks))
        self.assertEqual(boilings_in(deeds), len(sharing.stretches(house.bolt(names))) - 1)
        others = {name: house.bolt([name]) for name in house.names() if name not in names}
        for many, deed in enumerate(deeds):
            self.assertIs(type(deed), tuple)
            self.assertEqual(house.boilings(names), boilings_in(deeds[many:]))
            self.assertEqual(house.would(deeds[many:], names), 0)
            if deed[0] == "wax":
                self.assert_wax(house, names, deed)
            elif deed[0] == "dip":
                self.assertEqual(deed, ("dip", tuple(names), deed[2]))
                self.assertIn(deed[2], house.ready())
            else:
                self.assertEqual(deed, ("boil", tuple(names)))
            house.do(deed)
        self.assertEqual(house.boilings(names), 0)
        self.assertTrue(needs.met(house.bolt(names)))
        self.assertEqual(house.plan(names), [])
        self.assertEqual({name: house.bolt([name]) for name in others}, others)
        for deed in deeds:
            house.undo()
        if deeds:
            self.assertEqual(deeds[-1][0], "dip")
        return deeds

    def test_no_name(self):
        self.assertEqual(sample().plan([]), [])
        self.assertEqual(clean().plan([]), [])

    def test_a_cloth_without_cells(self):
        self.assertEqual(sample().plan(["cap"]), [])

    def test_one(self):
        house = clean()
        self.assertEqual(house.plan(["sail"]), [
            ("dip", ("sail",), 0), ("wax", "sail", (0,)), ("dip", ("sail",), 1),
        ])
        self.assertEqual(house.plan(["flag"]), [
            ("boil", ("flag",)), ("wax", "flag", (1,)), ("dip", ("flag",), 2),
        ])
        self.assert_plan(house, ["sail"])
        self.assert_plan(house, ["flag"])

    def test_several_in_both_orders(self):
        house = clean()
        for names in [["sail", "flag"], ["flag", "sail"], ["sail", "cap", "flag"], ["cap", "flag", "sail"]]:
            deeds = self.assert_plan(house, names)
            self.assertEqual(boilings_in(deeds), 1)
            # The cell of flag that bears wax lies in the way of dye 2 alone, so the other two dyes come first.
            self.assertEqual([deed[2] for deed in deeds if deed[0] == "dip"], [0, 1, 2])
            wax = [deed for deed in deeds if deed[0] == "wax"]
            self.assertEqual(sorted(wax[:2]), [("wax", "flag", (1,)), ("wax", "sail", (0,))])
            self.assertEqual(sorted(wax[2:]), [("wax", "flag", (1,)), ("wax", "sail", (0, 1))])

    def test_drawn_bolts(self):
        rng = random.Random(105)
        for bolt in clean_bolts(106, 2):
            pots = pots_of(bolt)
            parts = parted(rng, bolt[:40], ["b", "a", "c"])
            house = anew(pots, deeds_for(parts, [dye in lacks_of(bolt) for dye in range(pots)], ["d"]))
            for names in [["b", "a", "c"], ["c", "b"], ["a"]]:
                deeds = self.assert_plan(house, names)
                if len(house.bolt(names)) <= 5 and pots <= 5:
                    self.assertEqual(boilings_in(deeds), fewest_boilings(house.bolt(names)))

    def test_the_largest(self):
        rng = random.Random(107)
        lacks = [[at for at in range(120) if rng.random() < 0.5] for dye in range(12)]
        bolt = bolt_of(120, lacks, stain=1)
        house = anew(12, deeds_for({"a": bolt[:40], "b": bolt[40:80], "c": bolt[80:]}, [True] * 12))
        self.assertEqual(boilings_in(self.assert_plan(house, ["c", "a", "b"])), 11)

    def test_what_is_told_is_new(self):
        house = clean()
        first = house.plan(["sail", "flag"])
        kept = list(first)
        first.clear()
        self.assertEqual(house.plan(["sail", "flag"]), kept)


class BoilingsAndHeld(Together):
    def assert_held(self, house, names):
        """Boilings and members are those of the one bolt, whatever bars there are."""
        bolt = house.bolt(names)
        many = house.boilings(names)
        self.assertIs(type(many), int)
        self.assertEqual(many, sharing.boilings(bolt))
        held = house.held(names)
        self.assertEqual(held, sorted(set(held)))
        self.assertEqual(len(held), many + 1)
        for one in held:
            self.assertTrue(one == 12 or one in lacks_of(bolt))
            for other in held:
                self.assertEqual(apart(bolt, one, other) is None, one == other)

    def test_none_one_and_several(self):
        for house in (sample(), clean()):
            self.assertEqual((house.boilings([]), house.held([])), (0, [12]))
            self.assertEqual((house.boilings(["cap"]), house.held(["cap"])), (0, [12]))
            for names in [["sail"], ["flag"], ["sail", "flag"], ["flag", "sail"], ["flag", "cap", "sail"]]:
                self.assert_held(house, names)

    def test_where_there_are_bars(self):
        house = sample()
        self.assertTrue(house.hindered(["sail"]))
        self.assertEqual((house.boilings(["sail"]), house.boilings(["flag"])), (1, 1))
        self.assertEqual(house.boilings(["sail", "flag"]), 2)

    def test_without_bars(self):
        house = clean()
        self.assertEqual([house.boilings([name]) for name in ("sail", "flag", "cap")], [0, 1, 0])
        self.assertEqual(house.boilings(["sail", "flag"]), 1)

    def test_drawn_bolts(self):
        rng = random.Random(108)
        for bolt in all_bolts(109, 1):
            fresh = [rng.random() < 0.7 for dye in range(pots_of(bolt))]
            house = anew(pots_of(bolt), deeds_for(parted(rng, bolt[:40], ["b", "a"]), fresh))
            for names in [["b", "a"], ["a", "b"], ["a"], ["b"]]:
                self.assert_held(house, names)


class Would(Together):
    def stirred(self):
        """The clean house with something to do again, and marks on both sides of the book."""
        house = clean()
        house.mark("here")
        house.do(("boil", ("sail",)))
        house.do(("fold", "cap"))
        house.mark("beyond")
        house.undo()
        house.undo()
        return house

    def assert_would(self, house, deeds, names, many):
        kept, handed = all_told(house), (list(deeds), list(names))
        told = house.would(deeds, names)
        self.assertEqual(told, many)
        self.assertIs(type(told), int)
        self.assertEqual(all_told(house), kept)
        self.assertEqual((deeds, names), handed)

    def test_no_deeds(self):
        house = self.stirred()
        for names in [[], ["sail"], ["flag"], ["flag", "sail"]]:
            self.assert_would(house, [], names, house.boilings(names))

    def test_good_deeds(self):
        house = self.stirred()
        self.assert_would(house, [("boil", ("flag",))], ["flag"], 0)
        self.assert_would(house, [("wax", "sail", (1,))], ["sail"], 1)
        self.assert_would(house, [("wax", "sail", (1,)), ("boil", ("sail",))], ["sail"], 0)
        self.assert_would(house, [("fold", "cap"), ("twin", "flag", "cap")], ["cap"], 1)
        self.assert_would(house, [("hang", "new", 2)], ["new"], 0)
        self.assert_would(house, [("dip", (), 2)], ["flag"], 1)
        self.assertEqual(house.redo(), ("boil", ("sail",)))

    def test_each_first_part_of_a_plan(self):
        house = self.stirred()
        names = ["sail", "flag"]
        deeds = house.plan(names)
        for many in range(len(deeds) + 1):
            self.assert_would(house, deeds[:many], names, boilings_in(deeds[many:]))

    def test_a_refused_deed(self):
        """Its own refusal goes, first or last, ahead of those of the names."""
        house = self.stirred()
        good = ("wax", "sail", (1,))
        for error, deed in [
            (Taken, ("hang", "sail", 2)), (NoCell, ("wax", "sail", (2,))), (NoDye, ("brew", 3)),
            (Twice, ("boil", ("sail", "sail"))), (NoCloth, ("fold", "none")),
        ]:
            for deeds in [[deed], [deed, good], [good, deed], [good, deed, good], [good, ("boil", ()), deed]]:
                for names in [[], ["sail"], ["none"], ["sail", "sail"]]:
                    self.assert_refused(error, house, lambda: house.would(deeds, names))

    def test_a_deed_that_is_refused_for_the_one_ahead(self):
        house = self.stirred()
        self.assert_refused(NoCloth, house, lambda: house.would([("fold", "sail"), ("wax", "sail", ())], ["flag"]))
        self.assert_refused(Spent, house, lambda: house.would([("dip", (), 0), ("dip", (), 0)], ["flag"]))
        self.assert_refused(Taken, house, lambda: house.would([("hang", "new", 1)] * 2, ["flag"]))

    def test_names_as_they_hang_behind_the_deeds(self):
        house = self.stirred()
        self.assert_refused(NoCloth, house, lambda: house.would([("fold", "sail")], ["sail"]))
        self.assert_refused(NoCloth, house, lambda: house.would([("fold", "sail")], ["flag", "flag", "sail"]))
        self.assert_refused(Twice, house, lambda: house.would([("hang", "new", 1)], ["new", "new"]))
        self.assert_would(house, [("hang", "new", 1)], ["new", "flag"], 1)

    def test_drawn_bolts(self):
        rng = random.Random(110)
        for bolt in clean_bolts(111, 1):
            pots = pots_of(bolt)
            deeds = deeds_for(parted(rng, bolt[:40], ["b", "a"]), [True] * pots)
            house = anew(pots, deeds)
            many = rng.randrange(len(deeds) + 1)
            for deed in deeds[many:]:
                house.undo()
            self.assert_would(house, deeds[many:], ["b", "a"], sharing.boilings(bolt))


if __name__ == "__main__":
    unittest.main()
