"""Names, marks' words, plainly written numbers, and shades written one figure each."""

LETTERS = "abcdefghijklmnopqrstuvwxyz"
FIGURES = "0123456789"
NO_SHADES = "-"
MOST_LETTERS = 8
MOST_FIGURES = 6
MOST_POTS = 12


def is_name(text):
    """Tell whether the text is formed like a name, which a mark's word is, too."""
    return 1 <= len(text) <= MOST_LETTERS and all([sign in LETTERS for sign in text])


def plain_number(text):
    """Tell the number from 0 to 999999 that the text writes plainly, or None where it writes none so."""
    if not is_plain(text):
        return None
    return int(text)


def is_plain(text):
    """Tell whether the text is a number from 0 to 999999, written without a nought ahead."""
    if not 1 <= len(text) <= MOST_FIGURES:
        return False
    if text[0] == "0":
        return text == "0"
    return are_figures(text)


def plain_shades(text):
    """Tell the tuple of 0 to 12 shades that the text writes, or None where it writes none so."""
    if text == NO_SHADES:
        return ()
    if not 1 <= len(text) <= MOST_POTS or not are_figures(text):
        return None
    return tuple([int(sign) for sign in text])


def shades_shown(shades):
    """Tell the shades as a text, one figure each, or as a stroke where there are none."""
    if not shades:
        return NO_SHADES
    return "".join([str(shade) for shade in shades])


def are_figures(text):
    """Tell whether the text has no other signs than figures."""
    # Python's own reading takes blanks, signs ahead and underlines, too, so each sign is asked here.
    return all([sign in FIGURES for sign in text])
