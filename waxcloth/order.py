"""The order of the members, which says who can share a stretch, and its layers."""

from waxcloth.needs import lacking, needed

NOW = 12


def members(bolt):
    """Tell the needed dyes, rising, and the present behind them."""
    return needed(bolt) + [NOW]


def beneath(bolt, one, other):
    """Tell whether the first member is beneath the second."""
    if one == NOW:
        return False
    if other == NOW:
        return not lacking_under_wax(bolt, one)
    return is_lower((one, lacking(bolt, one)), (other, lacking(bolt, other)))


def apart(bolt, one, other):
    """Tell the cells by which two members clash, or None where they don't."""
    if one == other:
        return None
    if one == NOW:
        return apart_from_now(bolt, other)
    if other == NOW:
        return apart_from_now(bolt, one)
    ones = lacking(bolt, one)
    others = lacking(bolt, other)
    ones_alone = sorted(set(ones) - set(others))
    others_alone = sorted(set(others) - set(ones))
    if ones_alone and others_alone:
        return (ones_alone[0], others_alone[0])
    return None


def layers(bolt, dyes):
    """Tell the dyes in layers: each has those that are beneath none of what the layers ahead leave over."""
    left = with_cells(bolt, dyes)
    told = []
    while left:
        top = [one for one in left if not any([is_lower(one, other) for other in left])]
        told.append([dye for dye, cells in top])
        left = [one for one in left if one not in top]
    return told


def longest(bolt, dyes):
    """Tell a row with a dye of each layer, each dye beneath all ahead of it."""
    row = []
    for layer in reversed(layers(bolt, dyes)):
        pairs = with_cells(bolt, layer)
        if row:
            # A dye is kept out of the layer ahead only by one of that layer, so there is always one to take.
            last = (row[-1], lacking(bolt, row[-1]))
            pairs = [pair for pair in pairs if is_lower(last, pair)]
        row.append(pairs[0][0])
    return row[::-1]


def with_cells(bolt, dyes):
    """Tell the dyes, rising, each as a pair with the cells that lack it."""
    return [(dye, lacking(bolt, dye)) for dye in sorted(dyes)]


def is_lower(one, other):
    """Tell whether the first of two dyes, each with the cells that lack it, is beneath the second."""
    dye, cells = one
    other_dye, other_cells = other
    if cells == other_cells:
        return dye > other_dye
    return len(set(cells) - set(other_cells)) == 0


def lacking_under_wax(bolt, dye):
    """Tell the cells that lack the dye and bear wax, rising."""
    return [at for at in lacking(bolt, dye) if bolt[at][1]]


def apart_from_now(bolt, dye):
    """Tell the cell by which the present and the dye clash, as a tuple of one, or None where they don't."""
    cells = lacking_under_wax(bolt, dye)
    if cells:
        return (cells[0],)
    return None
