"""The refusals of the program, one class for each."""


class WaxError(ValueError):
    """What all refusals stand under."""


class NoName(WaxError):
    """The text is not formed like a name."""


class Taken(WaxError):
    """A cloth of this name hangs already."""


class BadSize(WaxError):
    """No cloth has so many cells."""


class NoCloth(WaxError):
    """No cloth of this name hangs."""


class NoCell(WaxError):
    """The number is no cell's."""


class BadWish(WaxError):
    """The wish has a wrong number of shades, or a shade that there is not."""


class Twice(WaxError):
    """Something stands twice where it may stand once."""


class NoDye(WaxError):
    """No pot has this number."""


class Spent(WaxError):
    """The pot is not fresh."""


class StillFresh(WaxError):
    """The pot is fresh, so it is not brewed."""


class TooDeep(WaxError):
    """A cell has as many shades of the dye as there can be."""


class NothingLeft(WaxError):
    """There is nothing to take back, to do again, or to step to."""


class NoMark(WaxError):
    """There is no mark of this word."""


class NoDeed(WaxError):
    """The text is no written deed."""


class NoHouse(WaxError):
    """The text does not begin as a written house does."""


class NoChart(WaxError):
    """The text is no written chart."""


class Barred(WaxError):
    """Bars stand against a plan; the field bars has them all."""

    def __init__(self, bars):
        # Python's own error keeps whatever it is made with: hand it words, so that the list itself is not kept.
        WaxError.__init__(self, "bars stand against the plan")
        self.bars = list(bars)
