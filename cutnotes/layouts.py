"""All pieces of a forest with their cuts, laid out once, and what is least over them."""

from cutnotes.pieces import Cutting, all_pieces, root_pieces


def note_cost(prices, note):
    """What a note costs."""
    changes, asks = prices
    return sum([changes[i] for i in note[0]]) + sum([asks[j] for j in note[1]])


def _wholes(cuts, costs, numbers):
    """For each cut what it costs, with the numbers of all that it leaves."""
    return [costs[note] + sum([numbers[part] for part in parts]) for s, note, parts in cuts]


class Layout:
    """All pieces that can come, the smaller ones first, each with its cuts.

    A cut is a triple (s, note, parts): the place, the number of its note, and those of the pieces that
    it leaves, the rest, if any, first. `roots` are the numbers of the pieces under the roots.
    """

    def __init__(self, forest):
        cutting = Cutting(forest)
        self.pieces = all_pieces(forest)
        numbers = {piece: number for number, piece in enumerate(self.pieces)}
        noted = {}
        self.cuts = []
        for piece in self.pieces:
            # Many cuts have the same note: it is charged once for all of them.
            self.cuts.append([(s, noted.setdefault(cutting.note(piece, s), len(noted)),
                               [numbers[part] for part in cutting.parts(piece, s)]) for s in piece])
        self.notes = list(noted)
        self.roots = [numbers[piece] for piece in root_pieces(forest)]

    def _costs(self, prices, kept):
        """For each note what it costs, and 1 less if its places are among those that are kept."""
        return [note_cost(prices, note) - (1 if note[0] in kept else 0) for note in self.notes]

    def _least(self, costs):
        """For each piece the least cost of its plans."""
        least = []
        for cuts in self.cuts:
            least.append(min(_wholes(cuts, costs, least)))
        return least

    def least_costs(self, prices):
        """The dict from all pieces to the least costs of their plans."""
        least = self._least(self._costs(prices, {}))
        return {piece: cost for piece, cost in zip(self.pieces, least)}

    def least_in_all(self, prices):
        """The least cost of the forest's plans."""
        least = self._least(self._costs(prices, {}))
        return sum([least[root] for root in self.roots])

    def is_floor(self, prices, numbers):
        """Whether a dict of integers has just the pieces as keys, and for each one no more than each cut costs."""
        if len(numbers) != len(self.pieces) or not all([piece in numbers for piece in self.pieces]):
            return False
        told = [numbers[piece] for piece in self.pieces]
        costs = self._costs(prices, {})
        return all([number <= min(_wholes(cuts, costs, told)) for number, cuts in zip(told, self.cuts)])

    def _cheap_cuts(self, costs):
        """For each piece the list of those cuts with which plans of the least cost begin."""
        least = self._least(costs)
        found = []
        for cuts, cost in zip(self.cuts, least):
            wholes = _wholes(cuts, costs, least)
            found.append([cut for cut, whole in zip(cuts, wholes) if whole == cost])
        return found

    def least_plan(self, prices, kept):
        """The least plan of the least cost; notes whose places are kept cost 1 less."""
        levels = []
        for piece, cuts in zip(self.pieces, self._cheap_cuts(self._costs(prices, kept))):
            # Parts share no place, so the least levels of a whole are made of the least ones of parts.
            levels.append(min([self._levels(levels, piece, cut) for cut in cuts]))
        found = {}
        for root in self.roots:
            for place, level in zip(self.pieces[root], levels[root]):
                found[place] = level
        return tuple([found[place] for place in range(len(found))])

    def _levels(self, levels, piece, cut):
        """The levels within a piece that is cut so, by those of the parts."""
        s, _, parts = cut
        found = {s: 1}
        for part in parts:
            lower = self.pieces[part]
            # The rest keeps the top of the piece, and is not under s.
            deeper = 0 if lower[0] == piece[0] else 1
            for place, level in zip(lower, levels[part]):
                found[place] = level + deeper
        return tuple([found[place] for place in piece])

    def count_least(self, prices):
        """The number of the forest's plans that have the least cost."""
        # A plan may begin with several places of a piece, none of them over another one: it is
        # counted at the greatest of them alone. The rest begins with lesser ones then: places
        # over s are less than s.
        counted = []
        for piece, cuts in zip(self.pieces, self._cheap_cuts(self._costs(prices, {}))):
            begun = {}
            for s, _, parts in cuts:
                many = 1
                for part in parts:
                    is_rest = self.pieces[part][0] == piece[0]
                    many *= sum([counted[part][other] for other in counted[part] if not is_rest or other < s])
                begun[s] = many
            counted.append(begun)
        many = 1
        for root in self.roots:
            many *= sum([counted[root][s] for s in counted[root]])
        return many
