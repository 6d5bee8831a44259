"""All pieces of a forest with their cuts, laid out once, and what is least over them."""

from cutnotes.errors import NoPrices, TooMany
from cutnotes.forests import is_row
from cutnotes.kinds import is_pair_of_numbers
from cutnotes.pieces import Cutting, all_pieces, root_pieces

MOST_PRICE = 1000000
MOST_PLACES_PRICED = 12


def check_prices(forest, prices):
    """Raises the error that is due if these are no prices of the forest."""
    if not is_pair_of_numbers(prices, len(forest.parents), MOST_PRICE):
        raise NoPrices()


def check_size(forest):
    """Raises the error that is due if the forest has too many pieces to look at all."""
    if len(forest.parents) > MOST_PLACES_PRICED and not is_row(forest):
        raise TooMany(MOST_PLACES_PRICED)


class Layout:
    """All pieces that can come, the smaller ones first, each with its cuts.

    A cut is a triple (s, note, parts): the place, its note, and the numbers of the pieces that
    it leaves, the rest, if any, first. `roots` are the numbers of the pieces under the roots.
    """

    def __init__(self, forest):
        cutting = Cutting(forest)
        self.pieces = all_pieces(forest)
        numbers = {piece: number for number, piece in enumerate(self.pieces)}
        self.cuts = [
            [(s, cutting.note(piece, s), [numbers[part] for part in cutting.parts(piece, s)]) for s in piece]
            for piece in self.pieces]
        self.roots = [numbers[piece] for piece in root_pieces(forest)]


def split_cost(prices, note):
    """What a note costs: the changes' part and the asks' part."""
    changes, asks = prices
    return (sum([changes[i] for i in note[0]]), sum([asks[j] for j in note[1]]))


def note_cost(prices, note):
    """What a note costs."""
    changes_part, asks_part = split_cost(prices, note)
    return changes_part + asks_part


def charged(layout, charge):
    """For each piece the list of what its cuts cost by a function of their notes."""
    return [[charge(note) for s, note, parts in cuts] for cuts in layout.cuts]


def _whole_costs(cuts, costs, least):
    """For each cut what it costs with the least of all that it leaves."""
    return [cost + sum([least[part] for part in parts]) for (s, note, parts), cost in zip(cuts, costs)]


def least_costs(layout, costs):
    """For each piece the least cost of its plans, by the costs of cuts."""
    least = []
    for cuts, costs_there in zip(layout.cuts, costs):
        least.append(min(_whole_costs(cuts, costs_there, least)))
    return least


def least_in_all(layout, costs):
    """The least cost of the forest's plans, by the costs of cuts."""
    least = least_costs(layout, costs)
    return sum([least[root] for root in layout.roots])


def cheap_cuts(layout, costs):
    """For each piece the list of those cuts with which plans of the least cost begin."""
    least = least_costs(layout, costs)
    found = []
    for cuts, costs_there, cost in zip(layout.cuts, costs, least):
        wholes = _whole_costs(cuts, costs_there, least)
        found.append([cut for cut, whole in zip(cuts, wholes) if whole == cost])
    return found


def least_plan(layout, costs):
    """The least plan of the forest that has the least cost, by the costs of cuts."""
    levels = []
    for piece, cuts in zip(layout.pieces, cheap_cuts(layout, costs)):
        # Parts share no place, so the least levels of a whole are made of the least ones of parts.
        levels.append(min([_levels(layout, levels, piece, cut) for cut in cuts]))
    found = {}
    for root in layout.roots:
        for place, level in zip(layout.pieces[root], levels[root]):
            found[place] = level
    return tuple([found[place] for place in range(len(found))])


def _levels(layout, levels, piece, cut):
    """The levels within a piece that is cut so, by those of the parts."""
    s, _, parts = cut
    found = {s: 1}
    for part in parts:
        lower = layout.pieces[part]
        # The rest keeps the top of the piece, and is not under s.
        deeper = 0 if lower[0] == piece[0] else 1
        for place, level in zip(lower, levels[part]):
            found[place] = level + deeper
    return tuple([found[place] for place in piece])


def count_least(layout, costs):
    """The number of the forest's plans that have the least cost, by the costs of cuts."""
    # A plan may begin with several places of a piece, none of them over another one: it is
    # counted at the greatest of them alone. The rest begins with lesser ones then: places
    # over s are less than s.
    counted = []
    for piece, cuts in zip(layout.pieces, cheap_cuts(layout, costs)):
        begun = {}
        for s, _, parts in cuts:
            many = 1
            for part in parts:
                is_rest = layout.pieces[part][0] == piece[0]
                many *= sum([counted[part][other] for other in counted[part] if not is_rest or other < s])
            begun[s] = many
        counted.append(begun)
    many = 1
    for root in layout.roots:
        many *= sum([counted[root][s] for s in counted[root]])
    return many
