"""What a bolt needs, and what bars the way to it."""


def lacking(bolt, dye):
    """Tell the cells that lack the dye, rising."""
    return [at for at, (stain, waxed, wish) in enumerate(bolt) if wish[dye] > stain[dye]]


def needed(bolt):
    """Tell the dyes that some cell lacks, rising."""
    if not bolt:
        return []
    pots = len(bolt[0][0])
    return [dye for dye in range(pots) if lacking(bolt, dye)]


def met(bolt):
    """Tell whether each cell's stain is its wish."""
    return all([stain == wish for stain, waxed, wish in bolt])


def bars(bolt, fresh):
    """Tell all bars (word, cell, dye), by cells and for one cell by dyes."""
    told = []
    for at, (stain, waxed, wish) in enumerate(bolt):
        for dye in range(len(stain)):
            word = bar_word(wish[dye] - stain[dye], fresh[dye])
            if word is not None:
                told.append((word, at, dye))
    return told


def bar_word(gap, is_fresh):
    """Tell the word of the bar where the wish is deeper by so many shades, or None where there is no bar."""
    if gap < 0:
        return "spare"
    if gap > 1:
        return "deep"
    if gap == 1 and not is_fresh:
        return "spent"
    return None
