"""Bolts and deeds for the tests, drawn the same in each run, and the document's words on them, said once more."""

import copy
import itertools
import random
import re

from waxcloth import errors
from waxcloth.house import House


def bolt_of(size, lacks, wax=(), stain=0, by=1):
    """A bolt of so many cells in which just the cells lacks[dye] lack the dye, with wax on the told cells."""
    pots = len(lacks)
    return [
        (
            (stain,) * pots,
            at in wax,
            tuple([stain + (by if at in lacks[dye] else 0) for dye in range(pots)]),
        )
        for at in range(size)
    ]


def drawn_wish(rng, shade, share, bars):
    """A wish for a stain's shade: deeper by one for a share of them; with bars any other one, too."""
    if bars and rng.random() < 0.1:
        return rng.randrange(10)
    return shade + 1 if shade < 9 and rng.random() < share else shade


def drawn_bolt(rng, pots, size, bars=False):
    """A bolt drawn cell by cell; how thickly dyes are lacked and wax lies is drawn for the whole of it."""
    share, wax = rng.random(), rng.choice([0, 0, 0.05, 0.2, 0.5, 1])
    told = []
    for at in range(size):
        stain = tuple([rng.choice([0, 1, 4, 8, 9]) for dye in range(pots)])
        wish = tuple([drawn_wish(rng, shade, share, bars) for shade in stain])
        told.append((stain, rng.random() < wax, wish))
    return told


def nested_bolt(rng, pots, size):
    """A bolt in which the cells that lack a dye are often some of those that lack another one, or the same."""
    lacks = []
    for dye in range(pots):
        ground = rng.choice(lacks) if lacks and rng.random() < 0.8 else list(range(size))
        share = rng.choice([0.3, 0.6, 0.9, 1])
        lacks.append([at for at in ground if rng.random() < share])
    rng.shuffle(lacks)
    share = rng.choice([0, 0, 0.1, 0.3])
    return bolt_of(size, lacks, [at for at in range(size) if rng.random() < share], rng.randrange(9))


def clean_bolts(seed, rounds, most_pots=12):
    """Bolts without bars where all pots are fresh."""
    rng = random.Random(seed)
    told = []
    for pots in list(range(most_pots + 1)) * rounds:
        told.append(drawn_bolt(rng, pots, rng.randrange(9)))
        told.append(drawn_bolt(rng, pots, rng.choice([20, 40])))
        told.append(nested_bolt(rng, pots, rng.randrange(1, 14)))
    return told


def all_bolts(seed, rounds, most_pots=12):
    """Bolts with bars and without."""
    rng = random.Random(seed)
    barred = [
        drawn_bolt(rng, pots, rng.randrange(12), True)
        for pots in list(range(most_pots + 1)) * rounds
    ]
    return barred + clean_bolts(seed + 1, rounds, most_pots)


def pots_of(bolt):
    return len(bolt[0][0]) if bolt else 0


def lacks_of(bolt):
    """The needed dyes, each with the set of cells that lack it."""
    rows = {
        dye: {at for at, (stain, waxed, wish) in enumerate(bolt) if wish[dye] > stain[dye]}
        for dye in range(pots_of(bolt))
    }
    return {dye: cells for dye, cells in rows.items() if cells}


def wax_of(bolt):
    return {at for at, cell in enumerate(bolt) if cell[1]}


def said_beneath(bolt, one, other):
    """What the document says of beneath, for two members."""
    if one == 12 or one == other:
        return False
    lacks = lacks_of(bolt)
    if other == 12:
        return not lacks[one] & wax_of(bolt)
    return lacks[one] < lacks[other] or (lacks[one] == lacks[other] and one > other)


def least_lists(bolt):
    """The least number of lists of the needed dyes, found by going through all ways to part them."""
    dyes = sorted(lacks_of(bolt))
    table = {(one, other): said_beneath(bolt, one, other) for one in dyes for other in dyes + [12]}
    best = len(dyes) + 1
    for choice in itertools.product(range(len(dyes) + 1), repeat=len(dyes)):
        # The number 0 is the present stretch, which is there even if it is empty.
        many = len(set(choice) | {0})
        if many < best and all(
            table[one, other] or table[other, one]
            for (one, its), (other, others) in itertools.combinations(zip(dyes, choice), 2)
            if its == others
        ) and all(table[dye, 12] for dye, its in zip(dyes, choice) if its == 0):
            best = many
    return best


def fewest_boilings(bolt):
    """The fewest boilings of any row of moves that dips no dye twice and meets the bolt, by trying all rows.

    A state is the wax that lies and the dyes that are still to be dipped; bars are passed over.
    """
    lacks = lacks_of(bolt)
    cells = frozenset(range(len(bolt)))
    states = {(frozenset(wax_of(bolt)), frozenset(lacks))}
    boiled = 0
    while True:
        seen, todo = set(), list(states)
        while todo:
            wax, dyes = todo.pop()
            if not dyes:
                return boiled
            if (wax, dyes) in seen:
                continue
            seen.add((wax, dyes))
            todo.extend([(wax | {at}, dyes) for at in cells - wax])
            todo.extend([(wax, dyes - {dye}) for dye in dyes if cells - wax == lacks[dye]])
        states = {(frozenset(), dyes) for wax, dyes in seen}
        boiled += 1


class Said:
    """How all stands behind a row of deeds by the document's words: cells changed in place, with their dips."""

    def __init__(self, pots):
        self.fresh = [True] * pots
        self.cloths = {}
        self.many = 0

    def refusals(self, deed):
        """The refusals of the deed in the order in which they go, each with a question whether it holds."""
        word, *parts = deed
        cloths, pots = self.cloths, len(self.fresh)

        def no_cloth(names):
            return (errors.NoCloth, lambda: any(name not in cloths for name in names))

        def new(name):
            return [
                (errors.NoName, lambda: not re.fullmatch("[a-z]{1,8}", name)),
                (errors.Taken, lambda: name in cloths),
            ]

        def no_cell(name, cells):
            return (errors.NoCell, lambda: any(at not in range(len(cloths[name])) for at in cells))

        def twice(things):
            return (errors.Twice, lambda: any(things.count(thing) > 1 for thing in things))

        def no_dye(dye):
            return (errors.NoDye, lambda: dye not in range(pots))

        def too_deep(names, dye):
            cells = [cell for name in names for cell in cloths.get(name, [])]
            return (errors.TooDeep, lambda: any(not cell["wax"] and len(cell["dips"][dye]) == 9 for cell in cells))

        if word == "hang":
            return new(parts[0]) + [(errors.BadSize, lambda: parts[1] not in range(41))]
        if word == "fold":
            return [no_cloth(parts)]
        if word == "twin":
            return [no_cloth(parts[:1])] + new(parts[1])
        if word == "wish":
            bad = (errors.BadWish, lambda: len(parts[2]) != pots or any(shade not in range(10) for shade in parts[2]))
            return [no_cloth(parts[:1]), no_cell(parts[0], [parts[1]]), bad]
        if word == "wax":
            return [no_cloth(parts[:1]), no_cell(*parts), twice(parts[1])]
        if word == "dip":
            spent = (errors.Spent, lambda: not self.fresh[parts[1]])
            return [no_dye(parts[1]), spent, no_cloth(parts[0]), twice(parts[0]), too_deep(*parts)]
        if word == "boil":
            return [no_cloth(parts[0]), twice(parts[0])]
        return [no_dye(parts[0]), (errors.StillFresh, lambda: self.fresh[parts[0]])]

    def refusal(self, deed):
        """The refusal of the deed, or None."""
        for error, holds in self.refusals(deed):
            if holds():
                return error
        return None

    def do(self, deed):
        """Do a deed that is not refused."""
        word, *parts = deed
        if word == "hang":
            pots = len(self.fresh)
            self.cloths[parts[0]] = [
                {"wax": False, "wish": (0,) * pots, "dips": [[] for dye in range(pots)]} for at in range(parts[1])
            ]
        elif word == "fold":
            del self.cloths[parts[0]]
        elif word == "twin":
            self.cloths[parts[1]] = copy.deepcopy(self.cloths[parts[0]])
        elif word == "wish":
            self.cloths[parts[0]][parts[1]]["wish"] = parts[2]
        elif word == "wax":
            for at in parts[1]:
                self.cloths[parts[0]][at]["wax"] = True
        elif word == "boil":
            for name in parts[0]:
                for cell in self.cloths[name]:
                    cell["wax"] = False
        elif word == "brew":
            self.fresh[parts[0]] = True
        else:
            self.fresh[parts[1]] = False
            for name in parts[0]:
                for cell in self.cloths[name]:
                    if not cell["wax"]:
                        cell["dips"][parts[1]].append(self.many)
        self.many += 1

    def bolts(self):
        """The cloths' bolts by names."""
        return {
            name: [(tuple([len(dips) for dips in cell["dips"]]), cell["wax"], cell["wish"]) for cell in cells]
            for name, cells in self.cloths.items()
        }


def said_behind(pots, deeds):
    """How all stands behind these deeds."""
    said = Said(pots)
    for deed in deeds:
        said.do(deed)
    return said


def drawn_cells(rng, size):
    """Cells for wax: mostly good ones, in any order."""
    cells = [rng.randrange(size) for at in range(rng.randrange(4))] if size else []
    if rng.random() < 0.8:
        cells = sorted(set(cells), key=lambda at: rng.random())
    if rng.random() < 0.1:
        cells.insert(rng.randrange(len(cells) + 1), rng.choice([-1, size, size + 1, 999999]))
    return tuple(cells)


def drawn_names(rng, said):
    """Names of cloths: mostly ones that hang, each once."""
    names = [name for name in said.cloths if rng.random() < 0.6]
    rng.shuffle(names)
    if rng.random() < 0.1:
        names.insert(rng.randrange(len(names) + 1), rng.choice(["a", "b", "none", "", "Sail", "sail "]))
    return tuple(names)


def drawn_name(rng, said):
    """A cloth's name: mostly one that hangs."""
    if said.cloths and rng.random() < 0.9:
        return rng.choice(sorted(said.cloths))
    return rng.choice(["a", "b", "none", "", "Sail"])


def drawn_new(rng):
    return rng.choice(["a", "b", "c", "d", "sail", "abcdefgh", "a", "b", "c", "", "Sail", "abcdefghi", "a1"])


def drawn_deed(rng, said):
    """A deed for a house that stands so, of any word, often one that is refused."""
    pots = len(said.fresh)
    word = rng.choice(["hang", "fold", "twin", "wish", "wish", "wish", "wax", "wax", "dip", "dip", "boil", "brew"])
    if not said.cloths and rng.random() < 0.7:
        word = "hang"
    dye = rng.randrange(pots) if pots and rng.random() < 0.95 else rng.choice([-1, pots, pots + 1])
    if word == "hang":
        return (word, drawn_new(rng), rng.choice([0, 1, 2, 3, 3, 4, 5, 40, 41, -1]))
    if word == "dip":
        return (word, drawn_names(rng, said), dye)
    if word == "boil":
        return (word, drawn_names(rng, said))
    if word == "brew":
        return (word, dye)
    name = drawn_name(rng, said)
    size = len(said.cloths.get(name, []))
    if word == "fold":
        return (word, name)
    if word == "twin":
        return (word, name, drawn_new(rng))
    if word == "wax":
        return (word, name, drawn_cells(rng, size))
    at = rng.randrange(size) if size and rng.random() < 0.9 else rng.choice([-1, size, size + 1])
    many = pots if rng.random() < 0.9 else pots + rng.choice([-1, 1])
    shades = [rng.choice([0, 0, 1, 1, 2, 9]) for dye in range(many)]
    if shades and rng.random() < 0.05:
        shades[rng.randrange(len(shades))] = rng.choice([-1, 10])
    return (word, name, at, tuple(shades))


def all_told(house):
    """All that a house tells of itself."""
    names = house.names()
    return {
        "names": names,
        "ready": house.ready(),
        "book": house.book(),
        "ahead": house.ahead(),
        "marks": house.marks(),
        "stains": [house.stains(name) for name in names],
        "wishes": [house.wishes(name) for name in names],
        "waxed": [house.waxed(name) for name in names],
        "bolt": house.bolt(names),
        "hindered": house.hindered(names),
        "boilings": house.boilings(names),
        "held": house.held(names),
    }


def how_it_stands(house):
    """All that a house tells, but for what can be done again and its marks."""
    return {word: told for word, told in all_told(house).items() if word not in ("ahead", "marks")}


def anew(pots, deeds):
    """A new house in which these deeds are done."""
    house = House(pots)
    for deed in deeds:
        house.do(deed)
    return house


def deeds_for(bolts, fresh, stirred=()):
    """Deeds that hang these bolts by their names, with just these pots fresh; `stirred` names hang beside them.

    Each shade is given by a dip of its own, under wax on all cells that it is not for.
    """
    deeds = [("hang", name, 1) for name in stirred]
    for name, bolt in bolts.items():
        deeds.append(("hang", name, len(bolt)))
        for dye in range(len(fresh)):
            for shade in range(1, 10):
                kept = tuple([at for at, cell in enumerate(bolt) if cell[0][dye] < shade])
                if len(kept) < len(bolt):
                    deeds += [("wax", name, kept), ("dip", (name,), dye), ("boil", (name,)), ("brew", dye)]
        deeds += [("wish", name, at, cell[2]) for at, cell in enumerate(bolt)]
        deeds.append(("wax", name, tuple([at for at, cell in enumerate(bolt) if cell[1]])))
    return deeds + [("dip", (), dye) for dye, is_fresh in enumerate(fresh) if not is_fresh]


def parted(rng, bolt, names):
    """The bolt cut into as many bolts as names, some of which may be empty."""
    cuts = sorted([rng.randrange(len(bolt) + 1) for name in names[1:]])
    ends = list(zip([0] + cuts, cuts + [len(bolt)]))
    return {name: bolt[first:last] for name, (first, last) in zip(names, ends)}
