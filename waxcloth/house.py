"""A house of cloths and pots, with the book of its deeds."""

from waxcloth.bolt import has_cell
from waxcloth.errors import NoCell, NoHouse, NoMark, NoName, NothingLeft
from waxcloth.notes import book_read, book_shown
from waxcloth.stand import behind, check_dye, check_hangs, new_stand
from waxcloth.together import bars_of, boilings_of, bolt_of, held_of, plan_of
from waxcloth.words import MOST_POTS, is_name, plain_number


class House:
    """What hangs and which pots are fresh, by the deeds that count; those taken back can be done again."""

    def __init__(self, pots):
        self.pots = pots
        self.first = new_stand(pots)
        # Pairs of a deed and how all stands behind it: those that count, and those taken back, the last one last.
        self.done = []
        self.undone = []
        self.places = {}

    def do(self, deed):
        """Do the deed; what could still be done again is let go."""
        stand = behind(self.now(), deed)
        many = len(self.done)
        self.places = {word: place for word, place in self.places.items() if place <= many}
        self.done.append((deed, stand))
        self.undone = []

    def undo(self):
        """Take back the last deed, and tell it."""
        if not self.done:
            raise NothingLeft("there is no deed to take back")
        pair = self.done.pop()
        self.undone.append(pair)
        return pair[0]

    def redo(self):
        """Do again the deed that was taken back last, and tell it."""
        if not self.undone:
            raise NothingLeft("there is no deed to do again")
        pair = self.undone.pop()
        self.done.append(pair)
        return pair[0]

    def book(self):
        """Tell the deeds that count, in their order."""
        return [deed for deed, stand in self.done]

    def ahead(self):
        """Tell the deeds that can be done again, the next one first."""
        return [deed for deed, stand in reversed(self.undone)]

    def mark(self, word):
        """Keep the word for the number of deeds that the book has now."""
        if not is_name(word):
            raise NoName("a mark's word has 1 to 8 small letters")
        self.places[word] = len(self.done)

    def go(self, word):
        """Take back deeds, or do deeds again, until the book has as many as at the mark."""
        if word not in self.places:
            raise NoMark("there is no mark of this word")
        while len(self.done) > self.places[word]:
            self.undo()
        while len(self.done) < self.places[word]:
            self.redo()

    def marks(self):
        """Tell the pairs of a mark's word and its number, by words."""
        return [(word, self.places[word]) for word in sorted(self.places)]

    def names(self):
        """Tell the names that hang, sorted."""
        return sorted(self.now().cloths)

    def ready(self):
        """Tell the dyes whose pots are fresh, rising."""
        return [dye for dye, is_fresh in enumerate(self.now().fresh) if is_fresh]

    def stains(self, name):
        """Tell the pictures that the cloth's cells have."""
        return [stain for stain, waxed, wish in self.cloth(name)]

    def wishes(self, name):
        """Tell the pictures that the cloth's cells should have."""
        return [wish for stain, waxed, wish in self.cloth(name)]

    def waxed(self, name):
        """Tell the cloth's cells with wax, rising."""
        return [at for at, (stain, waxed, wish) in enumerate(self.cloth(name)) if waxed]

    def bolt(self, names):
        """Tell the named cloths as one bolt."""
        return bolt_of(self.now(), names)

    def hindered(self, names):
        """Tell the bars (word, name, cell, dye) of the named cloths."""
        return bars_of(self.now(), names)

    def plan(self, names):
        """Tell deeds by which the named cloths are met with as few boilings as can be."""
        return plan_of(self.now(), names)

    def boilings(self, names):
        """Tell how many boilings the named cloths take, bars or not."""
        return boilings_of(self.now(), names)

    def held(self, names):
        """Tell members that show why the named cloths take no fewer boilings, bars or not."""
        return held_of(self.now(), names)

    def would(self, deeds, names):
        """Tell how many boilings the named cloths would take behind these deeds."""
        stand = self.now()
        for deed in deeds:
            stand = behind(stand, deed)
        return boilings_of(stand, names)

    def sources(self, name, cell, dye):
        """Tell the places in the book of the dips that gave the cell its shades of the dye, rising."""
        if not has_cell(self.cloth(name), cell):
            raise NoCell("the number is no cell of the cloth")
        check_dye(self.now(), dye)
        return dips_of(self.done, name, cell, dye)

    def now(self):
        """Tell how all stands now."""
        if not self.done:
            return self.first
        return self.done[-1][1]

    def cloth(self, name):
        """Tell the bolt of the cloth, which is only to be read."""
        stand = self.now()
        check_hangs(stand, name)
        return stand.cloths[name]


def dips_of(done, name, cell, dye):
    """Tell the places of the dips that gave the cell its shades, by going back from the last deed."""
    told = []
    for place in reversed(range(len(done))):
        deed, stand = done[place]
        if deed[0] == "hang" and deed[1] == name:
            # Whatever was called so ahead of this was another cloth.
            break
        if deed[0] == "twin" and deed[2] == name:
            name = deed[1]
        if deed[0] == "dip" and deed[2] == dye and name in deed[1] and not stand.cloths[name][cell][1]:
            told.append(place)
    return told[::-1]


def house_shown(house):
    """Tell the house as a text: its number of pots and its book."""
    return f"house {house.pots}\n" + book_shown(house.book())


def house_read(text):
    """Tell a new house in which the deeds that the text writes have been done."""
    head, line_feed, rest = text.partition("\n")
    if line_feed == "":
        raise NoHouse("the first row is missing or has no line feed")
    house = House(read_pots(head))
    for deed in book_read(rest):
        house.do(deed)
    return house


def read_pots(row):
    """Tell the number of pots that the first row of a house writes."""
    words = row.split(" ")
    if len(words) != 2 or words[0] != "house":
        raise NoHouse("the first row is not that of a house")
    pots = plain_number(words[1])
    if pots is None or pots > MOST_POTS:
        raise NoHouse("a house has 0 to 12 pots, written plainly")
    return pots
