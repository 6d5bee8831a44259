"""Tables of who counts where: which of them are hierarchies."""

from cutnotes.errors import NoTable
from cutnotes.forests import Forest
from cutnotes.kinds import is_lot

MOST_AMOUNTS = 20
MOST_ASK = 29


def is_table(thing):
    """Whether a thing is a table: for each amount the lot of the asks in which it counts."""
    if not isinstance(thing, tuple) or not 1 <= len(thing) <= MOST_AMOUNTS:
        return False
    # A lot ascends: its ends bound all that is between them.
    return all([is_lot(item) and (not item or 0 <= item[0] and item[-1] <= MOST_ASK) for item in thing])


def _are_crossing(one, other):
    """Whether two lots have something in common, while each has something that the other has not."""
    common = [ask for ask in one if ask in other]
    return 0 < len(common) < min(len(one), len(other))


def crossing(table):
    """The least pair of amounts whose lots cross, or None."""
    if not is_table(table):
        raise NoTable()
    for a, lot in enumerate(table):
        for b in range(a + 1, len(table)):
            if _are_crossing(lot, table[b]):
                return (a, b)
    return None


def forest_of(table):
    """A forest that counts as the table tells, with the places of the amounts and of the asks, or None."""
    if crossing(table) is not None:
        return None
    # Wider lots come first: as none cross, the last one ahead that has something of a lot has all of it.
    order = sorted([(-len(lot), amount) for amount, lot in enumerate(table)])
    ahead = []
    parents = []
    bearing = {}
    for _, amount in order:
        parents.append(_last_with(ahead, table[amount]))
        bearing[amount] = len(ahead)
        ahead.append(table[amount])
    asks = {}
    for ask in sorted({ask: True for lot in table for ask in lot}):
        asks[ask] = len(parents)
        parents.append(_last_with(ahead, (ask,)))
    places = tuple([bearing[amount] for amount in range(len(table))])
    return (Forest(tuple(parents), tuple(sorted(places)), tuple(sorted(asks.values()))), places, asks)


def _last_with(lots, lot):
    """The number of the last one of lots that has all of a lot, or None."""
    found = None
    for number, other in enumerate(lots):
        if all([ask in other for ask in lot]):
            found = number
    return found
