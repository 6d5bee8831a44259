"""Forests: places in a hierarchy, some of which bear amounts, some of which ask."""

from cutnotes.errors import BadForest, NoNumber, NoPlace
from cutnotes.kinds import is_between, is_integer, is_lot

MOST_PLACES = 60


class Forest:
    """A hierarchy of places, with those that bear an amount and those that ask."""

    def __init__(self, parents, bearing, asking):
        if not isinstance(parents, tuple) or not 1 <= len(parents) <= MOST_PLACES:
            raise BadForest("parents", -1)
        for place, parent in enumerate(parents):
            if parent is not None and not is_between(parent, 0, place - 1):
                raise BadForest("parents", place)
        if not _is_lot_of_places(bearing, len(parents)):
            raise BadForest("bearing", -1)
        if not _is_lot_of_places(asking, len(parents)):
            raise BadForest("asking", -1)
        self.parents = parents
        self.bearing = bearing
        self.asking = asking

    def __eq__(self, other):
        return (isinstance(other, Forest) and self.parents == other.parents
                and self.bearing == other.bearing and self.asking == other.asking)


def _is_lot_of_places(thing, many):
    """Whether a thing is a lot of places of a forest of so many."""
    # A lot ascends: its ends bound all that is between them.
    return is_lot(thing) and (not thing or 0 <= thing[0] and thing[-1] < many)


def is_place(forest, thing):
    """Whether a thing is a place of the forest."""
    return is_between(thing, 0, len(forest.parents) - 1)


def is_bearing(forest, thing):
    """Whether a thing is a bearing place of the forest."""
    return is_integer(thing) and thing in forest.bearing


def is_asking(forest, thing):
    """Whether a thing is an asking place of the forest."""
    return is_integer(thing) and thing in forest.asking


def way(forest, place):
    """The places over a place, from its root down, the place itself at last."""
    if not is_place(forest, place):
        raise NoPlace()
    upward = [place]
    parent = forest.parents[place]
    while parent is not None:
        upward.append(parent)
        parent = forest.parents[parent]
    return tuple(reversed(upward))


def under(forest, place):
    """The lot of the places under a place, the place itself among them."""
    if not is_place(forest, place):
        raise NoPlace()
    found = [place]
    # A child comes behind its parent, so one walk meets all of them.
    for later in range(place + 1, len(forest.parents)):
        if forest.parents[later] in found:
            found.append(later)
    return tuple(found)


def pairs(forest):
    """The ascending list of the pairs (i, j), i bearing, j asking, i over j."""
    found = []
    for i in forest.bearing:
        below = under(forest, i)
        found.extend([(i, j) for j in forest.asking if j in below])
    return found


def row(places):
    """The row of so many places: one way down, all of which bear and ask."""
    if not is_between(places, 1, MOST_PLACES):
        raise NoNumber()
    everywhere = tuple(range(places))
    return Forest((None,) + everywhere[:-1], everywhere, everywhere)


def is_row(thing):
    """Whether a thing is a forest that is a row."""
    return isinstance(thing, Forest) and thing == row(len(thing.parents))
