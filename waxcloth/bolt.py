"""Bolts: lists of cells (stain, waxed, wish), and what is done to them."""

from waxcloth.errors import BadWish, NoCell, TooDeep, Twice

DEEPEST = 9


def bare(pots, size):
    """Tell a bolt of so many cells without shades, wax, and wishes deeper than 0."""
    clear = (0,) * pots
    return [(clear, False, clear) for at in range(size)]


def with_wish(bolt, at, wish):
    """Tell the bolt with that wish of the cell."""
    if not has_cell(bolt, at):
        raise NoCell("a wish for a cell that the bolt does not have")
    stain, waxed, gone = bolt[at]
    if not is_picture(wish, len(stain)):
        raise BadWish("a wish is one shade from 0 to 9 for each pot")
    return bolt[:at] + [(stain, waxed, wish)] + bolt[at + 1:]


def with_wax(bolt, cells):
    """Tell the bolt with wax on these cells."""
    if not all([has_cell(bolt, at) for at in cells]):
        raise NoCell("wax for a cell that the bolt does not have")
    if len(set(cells)) != len(cells):
        raise Twice("a cell is told twice for wax")
    return [(stain, waxed or at in cells, wish) for at, (stain, waxed, wish) in enumerate(bolt)]


def dipped(bolt, dye):
    """Tell the bolt behind a dip: each cell without wax is one shade deeper in the dye."""
    if any([not waxed and stain[dye] >= DEEPEST for stain, waxed, wish in bolt]):
        raise TooDeep("a cell without wax has nine shades of the dye already")
    return [(stain if waxed else deepened(stain, dye), waxed, wish) for stain, waxed, wish in bolt]


def boiled(bolt):
    """Tell the bolt without wax."""
    return [(stain, False, wish) for stain, waxed, wish in bolt]


def has_cell(bolt, at):
    """Tell whether the number is a cell's of the bolt."""
    return 0 <= at < len(bolt)


def is_picture(shades, pots):
    """Tell whether these are as many shades as pots, none beyond the bounds."""
    return len(shades) == pots and all([0 <= shade <= DEEPEST for shade in shades])


def deepened(stain, dye):
    """Tell the picture with one shade more of the dye."""
    return stain[:dye] + (stain[dye] + 1,) + stain[dye + 1:]
