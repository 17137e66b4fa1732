"""Bolts for the tests, drawn the same in each run, and the document's words on them, said once more by sets."""

import itertools
import random


def bolt_of(size, lacks, wax=(), stain=0, by=1):
    """A bolt of so many cells in which just the cells lacks[dye] lack the dye, with wax on the told cells."""
    pots = len(lacks)
    return [
        (
            (stain,) * pots,
            at in wax,
            tuple([stain + (by if at in lacks[dye] else 0) for dye in range(pots)]),
        )
        for at in range(size)
    ]


def drawn_wish(rng, shade, share, bars):
    """A wish for a stain's shade: deeper by one for a share of them; with bars any other one, too."""
    if bars and rng.random() < 0.1:
        return rng.randrange(10)
    return shade + 1 if shade < 9 and rng.random() < share else shade


def drawn_bolt(rng, pots, size, bars=False):
    """A bolt drawn cell by cell; how thickly dyes are lacked and wax lies is drawn for the whole of it."""
    share, wax = rng.random(), rng.choice([0, 0, 0.05, 0.2, 0.5, 1])
    told = []
    for at in range(size):
        stain = tuple([rng.choice([0, 1, 4, 8, 9]) for dye in range(pots)])
        wish = tuple([drawn_wish(rng, shade, share, bars) for shade in stain])
        told.append((stain, rng.random() < wax, wish))
    return told


def nested_bolt(rng, pots, size):
    """A bolt in which the cells that lack a dye are often some of those that lack another one, or the same."""
    lacks = []
    for dye in range(pots):
        ground = rng.choice(lacks) if lacks and rng.random() < 0.8 else list(range(size))
        share = rng.choice([0.3, 0.6, 0.9, 1])
        lacks.append([at for at in ground if rng.random() < share])
    rng.shuffle(lacks)
    share = rng.choice([0, 0, 0.1, 0.3])
    return bolt_of(size, lacks, [at for at in range(size) if rng.random() < share], rng.randrange(9))


def clean_bolts(seed, rounds, most_pots=12):
    """Bolts without bars where all pots are fresh."""
    rng = random.Random(seed)
    told = []
    for pots in list(range(most_pots + 1)) * rounds:
        told.append(drawn_bolt(rng, pots, rng.randrange(9)))
        told.append(drawn_bolt(rng, pots, rng.choice([20, 40])))
        told.append(nested_bolt(rng, pots, rng.randrange(1, 14)))
    return told


def all_bolts(seed, rounds, most_pots=12):
    """Bolts with bars and without."""
    rng = random.Random(seed)
    barred = [
        drawn_bolt(rng, pots, rng.randrange(12), True)
        for pots in list(range(most_pots + 1)) * rounds
    ]
    return barred + clean_bolts(seed + 1, rounds, most_pots)


def pots_of(bolt):
    return len(bolt[0][0]) if bolt else 0


def lacks_of(bolt):
    """The needed dyes, each with the set of cells that lack it."""
    rows = {
        dye: {at for at, (stain, waxed, wish) in enumerate(bolt) if wish[dye] > stain[dye]}
        for dye in range(pots_of(bolt))
    }
    return {dye: cells for dye, cells in rows.items() if cells}


def wax_of(bolt):
    return {at for at, cell in enumerate(bolt) if cell[1]}


def said_beneath(bolt, one, other):
    """What the document says of beneath, for two members."""
    if one == 12 or one == other:
        return False
    lacks = lacks_of(bolt)
    if other == 12:
        return not lacks[one] & wax_of(bolt)
    return lacks[one] < lacks[other] or (lacks[one] == lacks[other] and one > other)


def least_lists(bolt):
    """The least number of lists of the needed dyes, found by going through all ways to part them."""
    dyes = sorted(lacks_of(bolt))
    table = {(one, other): said_beneath(bolt, one, other) for one in dyes for other in dyes + [12]}
    best = len(dyes) + 1
    for choice in itertools.product(range(len(dyes) + 1), repeat=len(dyes)):
        # The number 0 is the present stretch, which is there even if it is empty.
        many = len(set(choice) | {0})
        if many < best and all(
            table[one, other] or table[other, one]
            for (one, its), (other, others) in itertools.combinations(zip(dyes, choice), 2)
            if its == others
        ) and all(table[dye, 12] for dye, its in zip(dyes, choice) if its == 0):
            best = many
    return best


def fewest_boilings(bolt):
    """The fewest boilings of any row of moves that dips no dye twice and meets the bolt, by trying all rows.

    A state is the wax that lies and the dyes that are still to be dipped; bars are passed over.
    """
    lacks = lacks_of(bolt)
    cells = frozenset(range(len(bolt)))
    states = {(frozenset(wax_of(bolt)), frozenset(lacks))}
    boiled = 0
    while True:
        seen, todo = set(), list(states)
        while todo:
            wax, dyes = todo.pop()
            if not dyes:
                return boiled
            if (wax, dyes) in seen:
                continue
            seen.add((wax, dyes))
            todo.extend([(wax | {at}, dyes) for at in cells - wax])
            todo.extend([(wax, dyes - {dye}) for dye in dyes if cells - wax == lacks[dye]])
        states = {(frozenset(), dyes) for wax, dyes in seen}
        boiled += 1
