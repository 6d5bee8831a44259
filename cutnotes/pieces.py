"""Pieces of a forest: which can come, the note of a cut in one, and what the cut leaves."""

from cutnotes.forests import under
from cutnotes.kinds import is_lot


def root_pieces(forest):
    """The list of the pieces of all places under each root."""
    return [under(forest, place) for place, parent in enumerate(forest.parents) if parent is None]


def is_piece(forest, thing):
    """Whether a thing is a piece that can come."""
    if not is_lot(thing) or not thing or thing[0] < 0 or thing[-1] >= len(forest.parents):
        return False
    held = {}
    # The place over all others is the least one; from there on each is below one that is held.
    for place in thing:
        if held and forest.parents[place] not in held:
            return False
        held[place] = True
    return True


def all_pieces(forest):
    """The list of all pieces that can come, the smaller ones first."""
    topped = [[] for place in forest.parents]
    for place in reversed(range(len(forest.parents))):
        found = [(place,)]
        for child, parent in enumerate(forest.parents):
            if parent == place:
                found = [tuple(sorted(piece + lower)) for piece in found for lower in [(), *topped[child]]]
        topped[place] = found
    return sorted([piece for pieces in topped for piece in pieces], key=len)


class Cutting:
    """How the pieces of a forest are cut; what is over what is worked out once for all cuts."""

    def __init__(self, forest):
        self.parents = forest.parents
        self.below = [{j: True for j in under(forest, i)} for i in range(len(forest.parents))]
        self.bears = {i: True for i in forest.bearing}
        self.asks = {j: True for j in forest.asking}

    def bearing_over(self, piece, s):
        """The lot of the bearing places of a piece over its place s."""
        return tuple([i for i in piece if i in self.bears and s in self.below[i]])

    def asking_under(self, piece, s):
        """The lot of the asking places of a piece under its place s."""
        return tuple([j for j in piece if j in self.asks and j in self.below[s]])

    def note(self, piece, s):
        """The note of the cut at the place s of a piece; two empty lots if there is none."""
        places = self.bearing_over(piece, s)
        asks = self.asking_under(piece, s)
        if not places or not asks:
            return ((), ())
        return (places, asks)

    def parts(self, piece, s):
        """The list of the pieces that the cut at s leaves: the rest, if any, and one for each child."""
        rest = tuple([place for place in piece if place not in self.below[s]])
        children = [place for place in piece if self.parents[place] == s]
        lower = [tuple([place for place in piece if place in self.below[child]]) for child in children]
        return [rest, *lower] if rest else lower
