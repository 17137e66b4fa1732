"""Bolts as texts: a row with the numbers of pots and cells, and a row for each cell."""

from waxcloth.errors import NoChart
from waxcloth.words import MOST_POTS, plain_number, plain_shades, shades_shown

MOST_ROWS = 999
WAX = "*"
NO_WAX = "."


def chart(bolt, pots):
    """Tell the bolt as a text."""
    rows = [f"bolt {pots} {len(bolt)}"] + [cell_shown(cell) for cell in bolt]
    return "".join([row + "\n" for row in rows])


def read_chart(text):
    """Tell the pair of the number of pots and the bolt that the text writes."""
    if not text.endswith("\n"):
        raise NoChart("the last row has no line feed")
    head, *rows = text[:-1].split("\n")
    pots, size = read_head(head)
    if len(rows) != size:
        raise NoChart("there are not as many rows as cells")
    return (pots, [read_cell(row, pots) for row in rows])


def cell_shown(cell):
    """Tell the cell as a row."""
    stain, waxed, wish = cell
    return " ".join([shades_shown(stain), WAX if waxed else NO_WAX, shades_shown(wish)])


def read_head(row):
    """Tell the numbers of pots and cells that the first row writes."""
    words = row.split(" ")
    if len(words) != 3 or words[0] != "bolt":
        raise NoChart("the first row is not that of a chart")
    return (read_bounded(words[1], MOST_POTS), read_bounded(words[2], MOST_ROWS))


def read_bounded(text, most):
    """Tell the number that the text writes, which goes up to the most."""
    number = plain_number(text)
    if number is None or number > most:
        raise NoChart("the first row has a number that is not plain or too great")
    return number


def read_cell(row, pots):
    """Tell the cell that the row writes."""
    words = row.split(" ")
    if len(words) != 3 or words[1] not in (WAX, NO_WAX):
        raise NoChart("a row is not that of a cell")
    return (read_picture(words[0], pots), words[1] == WAX, read_picture(words[2], pots))


def read_picture(text, pots):
    """Tell the picture that the text writes, with as many shades as pots."""
    shades = plain_shades(text)
    if shades is None or len(shades) != pots:
        raise NoChart("a picture has not one figure for each pot")
    return shades
