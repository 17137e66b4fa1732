"""Plans: moves by which a bolt is met with as few boilings as can be, and what a move does."""

from waxcloth.bolt import boiled, dipped, with_wax
from waxcloth.errors import Barred, Spent
from waxcloth.needs import bars
from waxcloth.sharing import stretches


def plan(bolt, fresh):
    """Tell a list of moves that meets the bolt."""
    found = bars(bolt, fresh)
    if found:
        raise Barred(found)
    present, *others = stretches(bolt)
    moves = stretch_moves(bolt, present)
    # A dip of another dye changes nothing in which cells lack this one, so the stains that stand now will do.
    clean = boiled(bolt)
    for dyes in others:
        moves.append(("boil",))
        moves += stretch_moves(clean, dyes)
    return moves


def moved(bolt, fresh, move):
    """Tell the bolt and the list of fresh pots behind the move."""
    word = move[0]
    if word == "wax":
        return (with_wax(bolt, move[1]), list(fresh))
    if word == "boil":
        return (boiled(bolt), list(fresh))
    dye = move[1]
    if not fresh[dye]:
        raise Spent("the pot of the dye is not fresh")
    return (dipped(bolt, dye), fresh[:dye] + [False] + fresh[dye + 1:])


def stretch_moves(bolt, dyes):
    """Tell the moves of a stretch that begins with the bolt's wax and dips these dyes, each beneath all ahead of it."""
    moves = []
    for dye in dyes:
        cells = to_keep_off(bolt, dye)
        if cells:
            moves.append(("wax", cells))
            bolt = with_wax(bolt, cells)
        moves.append(("dip", dye))
    return moves


def to_keep_off(bolt, dye):
    """Tell the tuple of cells without wax that do not lack the dye, rising."""
    return tuple([at for at, (stain, waxed, wish) in enumerate(bolt) if not waxed and wish[dye] <= stain[dye]])
