"""How all stands in a house, its pots and its cloths, and what a deed does to that."""

from waxcloth.bolt import bare, boiled, dipped, with_wax, with_wish
from waxcloth.errors import BadSize, NoCloth, NoDye, NoName, Spent, StillFresh, Taken, Twice
from waxcloth.words import is_name

MOST_CELLS = 40


class Stand:
    """Which pots are fresh, as a list, and the bolts of the cloths, as a dict by names.

    None is changed once it is made: a deed makes a new one, and the one ahead of it is there to go back to.
    """

    def __init__(self, fresh, cloths):
        self.fresh = fresh
        self.cloths = cloths


def new_stand(pots):
    """Tell how all stands in the beginning."""
    return Stand([True] * pots, {})


def behind_hang(stand, parts):
    """Tell how all stands behind ("hang", name, size); parts is the deed without its word, as in all of these."""
    name, size = parts
    check_new(stand, name)
    if not 0 <= size <= MOST_CELLS:
        raise BadSize("a cloth has 0 to 40 cells")
    return with_cloths(stand, {name: bare(len(stand.fresh), size)})


def behind_fold(stand, parts):
    """Tell how all stands behind ("fold", name)."""
    name = parts[0]
    check_hangs(stand, name)
    return Stand(stand.fresh, {other: stand.cloths[other] for other in stand.cloths if other != name})


def behind_twin(stand, parts):
    """Tell how all stands behind ("twin", name, new)."""
    name, new = parts
    check_hangs(stand, name)
    check_new(stand, new)
    # Both may have the same list, since no bolt is changed once it is made.
    return with_cloths(stand, {new: stand.cloths[name]})


def behind_wish(stand, parts):
    """Tell how all stands behind ("wish", name, cell, wish)."""
    name, at, wish = parts
    check_hangs(stand, name)
    return with_cloths(stand, {name: with_wish(stand.cloths[name], at, wish)})


def behind_wax(stand, parts):
    """Tell how all stands behind ("wax", name, cells)."""
    name, cells = parts
    check_hangs(stand, name)
    return with_cloths(stand, {name: with_wax(stand.cloths[name], cells)})


def behind_dip(stand, parts):
    """Tell how all stands behind ("dip", names, dye)."""
    names, dye = parts
    check_dye(stand, dye)
    if not stand.fresh[dye]:
        raise Spent("the pot of the dye is not fresh")
    check_names(stand, names)
    changed = {name: dipped(stand.cloths[name], dye) for name in names}
    return with_pot(with_cloths(stand, changed), dye, False)


def behind_boil(stand, parts):
    """Tell how all stands behind ("boil", names)."""
    names = parts[0]
    check_names(stand, names)
    return with_cloths(stand, {name: boiled(stand.cloths[name]) for name in names})


def behind_brew(stand, parts):
    """Tell how all stands behind ("brew", dye)."""
    dye = parts[0]
    check_dye(stand, dye)
    if stand.fresh[dye]:
        raise StillFresh("the pot of the dye is still fresh")
    return with_pot(stand, dye, True)


DEEDS = {
    "hang": behind_hang,
    "fold": behind_fold,
    "twin": behind_twin,
    "wish": behind_wish,
    "wax": behind_wax,
    "dip": behind_dip,
    "boil": behind_boil,
    "brew": behind_brew,
}


def behind(stand, deed):
    """Tell how all stands behind the deed, or raise its refusal."""
    word, *parts = deed
    change = DEEDS[word]
    return change(stand, parts)


def with_cloths(stand, changed):
    """Tell how all stands with these bolts, by names, in place of what hangs there."""
    cloths = dict(stand.cloths)
    cloths.update(changed)
    return Stand(stand.fresh, cloths)


def with_pot(stand, dye, is_fresh):
    """Tell how all stands with the dye's pot fresh or not."""
    fresh = list(stand.fresh)
    fresh[dye] = is_fresh
    return Stand(fresh, stand.cloths)


def check_new(stand, name):
    """Refuse what can't be a new cloth's name."""
    if not is_name(name):
        raise NoName("a name has 1 to 8 small letters")
    if name in stand.cloths:
        raise Taken("a cloth of this name hangs already")


def check_hangs(stand, name):
    """Refuse where no cloth of this name hangs."""
    if name not in stand.cloths:
        raise NoCloth("no cloth of this name hangs")


def check_names(stand, names):
    """Refuse where one of the names hangs nowhere, then where one stands twice."""
    for name in names:
        check_hangs(stand, name)
    if len(set(names)) != len(names):
        raise Twice("a cloth is told twice")


def check_dye(stand, dye):
    """Refuse where no pot has this number."""
    if not 0 <= dye < len(stand.fresh):
        raise NoDye("no pot has this number")
