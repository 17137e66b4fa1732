"""Names, marks' words and plainly written numbers."""

LETTERS = "abcdefghijklmnopqrstuvwxyz"
FIGURES = "0123456789"
MOST_LETTERS = 8
MOST_FIGURES = 6


def is_name(text):
    """Tell whether the text is formed like a name, which a mark's word is, too."""
    return 1 <= len(text) <= MOST_LETTERS and all([sign in LETTERS for sign in text])


def plain_number(text):
    """Tell the number from 0 to 999999 that the text writes plainly, or None where it writes none so."""
    if not is_plain(text):
        return None
    return int(text)


def is_plain(text):
    """Tell whether the text is a number from 0 to 999999, written without a nought ahead."""
    if not 1 <= len(text) <= MOST_FIGURES:
        return False
    if text[0] == "0":
        return text == "0"
    # Python's own reading takes blanks, signs ahead and underlines, too, so each sign is asked here.
    return all([sign in FIGURES for sign in text])
