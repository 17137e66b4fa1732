"""Deeds and books as texts: a deed is a row of words with one blank between, a book has a line feed behind each."""

from waxcloth.errors import NoDeed
from waxcloth.words import is_name, plain_number, plain_shades, shades_shown


def shown(deed):
    """Tell the deed as a row of words."""
    word = deed[0]
    if word == "wish":
        return " ".join([word, deed[1], str(deed[2]), shades_shown(deed[3])])
    if word == "wax":
        return " ".join([word, deed[1]] + [str(at) for at in deed[2]])
    if word == "dip":
        # The names stand last in the row, since there may be however many.
        return " ".join([word, str(deed[2])] + list(deed[1]))
    if word == "boil":
        return " ".join([word] + list(deed[1]))
    return " ".join([str(part) for part in deed])


def book_shown(deeds):
    """Tell the deeds as a text, a line feed behind each."""
    return "".join([shown(deed) + "\n" for deed in deeds])


def book_read(text):
    """Tell the list of deeds that the text writes."""
    if text == "":
        return []
    if not text.endswith("\n"):
        raise NoDeed("the last row has no line feed")
    return [read(row) for row in text[:-1].split("\n")]


def read_hang(words):
    """Tell the deed of `hang NAME SIZE`, its first word left out, as with all of these."""
    check_many(words, 2)
    return ("hang", read_name(words[0]), read_number(words[1]))


def read_fold(words):
    """Tell the deed of `fold NAME`."""
    check_many(words, 1)
    return ("fold", read_name(words[0]))


def read_twin(words):
    """Tell the deed of `twin NAME NEW`."""
    check_many(words, 2)
    return ("twin", read_name(words[0]), read_name(words[1]))


def read_wish(words):
    """Tell the deed of `wish NAME CELL SHADES`."""
    check_many(words, 3)
    return ("wish", read_name(words[0]), read_number(words[1]), read_shades(words[2]))


def read_wax(words):
    """Tell the deed of `wax NAME` and the cells."""
    check_some(words)
    return ("wax", read_name(words[0]), tuple([read_number(word) for word in words[1:]]))


def read_dip(words):
    """Tell the deed of `dip DYE` and the names."""
    check_some(words)
    dye = read_number(words[0])
    return ("dip", tuple([read_name(word) for word in words[1:]]), dye)


def read_boil(words):
    """Tell the deed of `boil` and the names."""
    return ("boil", tuple([read_name(word) for word in words]))


def read_brew(words):
    """Tell the deed of `brew DYE`."""
    check_many(words, 1)
    return ("brew", read_number(words[0]))


READERS = {
    "hang": read_hang,
    "fold": read_fold,
    "twin": read_twin,
    "wish": read_wish,
    "wax": read_wax,
    "dip": read_dip,
    "boil": read_boil,
    "brew": read_brew,
}


def read(row):
    """Tell the deed that the row writes."""
    # Two blanks, and a blank ahead or behind, leave an empty word, which is never a good one.
    word, *words = row.split(" ")
    if word not in READERS:
        raise NoDeed("the row begins with no deed's word")
    reader = READERS[word]
    return reader(words)


def check_many(words, many):
    """Refuse where there are not so many words behind the first."""
    if len(words) != many:
        raise NoDeed("the row has too many words or too few")


def check_some(words):
    """Refuse where there is no word behind the first."""
    if not words:
        raise NoDeed("the row has too few words")


def read_name(text):
    """Tell the name that the text is."""
    if not is_name(text):
        raise NoDeed("a word is not formed like a name")
    return text


def read_number(text):
    """Tell the number that the text writes."""
    number = plain_number(text)
    if number is None:
        raise NoDeed("a word is no number from 0 to 999999, written plainly")
    return number


def read_shades(text):
    """Tell the shades that the text writes."""
    shades = plain_shades(text)
    if shades is None:
        raise NoDeed("a word is no row of 0 to 12 shades")
    return shades
