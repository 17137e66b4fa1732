"""Which dyes share a stretch, with as few stretches as can be, and why there can be no fewer.

Members stand here by their places: those of the needed dyes, rising, and behind them the present's. As many of them
as can be are followed by another one in their stretch, no two by the same; so there are as few stretches as can be.
"""

from waxcloth.needs import needed
from waxcloth.order import NOW, is_lower, lacking_under_wax, with_cells


def stretches(bolt):
    """Tell the needed dyes as a list of lists, that of the present stretch first."""
    dyes = needed(bolt)
    follower = followers(places_above(bolt, dyes))
    present = row_behind(dyes, follower, len(dyes))
    return [present] + [[dyes[at]] + row_behind(dyes, follower, at) for at in range(len(dyes)) if at not in follower]


def held(bolt):
    """Tell as many members as there are stretches, each two of which clash, rising."""
    dyes = needed(bolt)
    above = places_above(bolt, dyes)
    follower = followers(above)
    firsts = [at for at in range(len(above)) if at not in follower]
    tried = []
    for at in firsts:
        # It finds no place any more: what it leaves is the places that it went through.
        settle(at, above, follower, tried)
    # All that is above one of these was tried, and whatever was tried is left out: so no two stand in the order.
    moving = firsts + [follower[at] for at in tried]
    numbers = dyes + [NOW]
    return sorted([numbers[at] for at in moving if at not in tried])


def boilings(bolt):
    """Tell how many boilings the bolt takes, bars or not."""
    return boilings_for(bolt, needed(bolt))


def easing(bolt):
    """Tell the dyes without which the boilings would be fewer, rising."""
    dyes = needed(bolt)
    many = boilings_for(bolt, dyes)
    return [dye for dye in dyes if boilings_for(bolt, [other for other in dyes if other != dye]) < many]


def boilings_for(bolt, dyes):
    """Tell how many boilings there are where these dyes alone, rising, are to be dipped."""
    follower = followers(places_above(bolt, dyes))
    # Each stretch has one last member, which none follows.
    return follower.count(None) - 1


def places_above(bolt, dyes):
    """Tell for each place the list of places above it; the present's is the last, and none is above it."""
    pairs = with_cells(bolt, dyes)
    told = []
    for one in pairs:
        places = [at for at, other in enumerate(pairs) if is_lower(one, other)]
        if not lacking_under_wax(bolt, one[0]):
            places.append(len(pairs))
        told.append(places)
    return told + [[]]


def followers(above):
    """Tell for each place the one that follows it in its stretch, or None, with as few None as can be."""
    follower = [None for places in above]
    for at in range(len(above)):
        settle(at, above, follower, [])
    return follower


def settle(at, above, follower, tried):
    """Let this place follow one above it, moving others if need be, and tell whether it could be done."""
    for place in above[at]:
        if place not in tried:
            tried.append(place)
            if follower[place] is None or settle(follower[place], above, follower, tried):
                follower[place] = at
                return True
    return False


def row_behind(dyes, follower, at):
    """Tell the dyes that follow the place in its stretch, one behind the other."""
    row = []
    at = follower[at]
    while at is not None:
        row.append(dyes[at])
        at = follower[at]
    return row
