"""Named cloths that are planned together as one bolt: the cells of the first one, then those of the second one."""

from waxcloth.errors import Barred
from waxcloth.needs import bars
from waxcloth.plans import plan
from waxcloth.sharing import boilings, held
from waxcloth.stand import check_names


def bolt_of(stand, names):
    """Tell the one bolt of the named cloths."""
    check_names(stand, names)
    bolt = []
    for name in names:
        bolt += stand.cloths[name]
    return bolt


def bars_of(stand, names):
    """Tell all bars (word, name, cell, dye), the cell counted in its cloth."""
    check_names(stand, names)
    told = []
    for name in names:
        told += [(word, name, at, dye) for word, at, dye in bars(stand.cloths[name], stand.fresh)]
    return told


def plan_of(stand, names):
    """Tell a list of deeds by which the named cloths are met."""
    found = bars_of(stand, names)
    if found:
        raise Barred(found)
    deeds = []
    for move in plan(bolt_of(stand, names), stand.fresh):
        deeds += deeds_of(stand, names, move)
    return deeds


def boilings_of(stand, names):
    """Tell how many boilings the named cloths take, bars or not."""
    return boilings(bolt_of(stand, names))


def held_of(stand, names):
    """Tell members that show why the named cloths take no fewer boilings, bars or not."""
    return held(bolt_of(stand, names))


def deeds_of(stand, names, move):
    """Tell the deeds that do the move of the one bolt."""
    if move[0] == "wax":
        return wax_deeds(stand, names, move[1])
    if move[0] == "dip":
        return [("dip", tuple(names), move[1])]
    return [("boil", tuple(names))]


def wax_deeds(stand, names, cells):
    """Tell a deed for each cloth that has some of these cells of the one bolt."""
    deeds = []
    first = 0
    for name in names:
        behind_last = first + len(stand.cloths[name])
        its = tuple([at - first for at in cells if first <= at < behind_last])
        if its:
            deeds.append(("wax", name, its))
        first = behind_last
    return deeds
