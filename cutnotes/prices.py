"""Prices: what the cheapest notes cost, which plans they are, and all trades between the two parts."""

from cutnotes.errors import NoNotes
from cutnotes.layouts import note_cost
from cutnotes.notes import is_notes
from cutnotes.pricing import check_prices, laid_out


def price_of(forest, prices, notes):
    """What notes cost, all together."""
    check_prices(forest, prices)
    if not is_notes(forest, notes):
        raise NoNotes()
    return sum([note_cost(prices, note) for note in notes])


def least_price(forest, prices):
    """The least cost of a plan's notes."""
    check_prices(forest, prices)
    return laid_out(forest).least_in_all(prices)


def cheapest(forest, prices):
    """The least plan of the least price."""
    check_prices(forest, prices)
    return laid_out(forest).least_plan(prices, {})


def count_cheapest(forest, prices):
    """The number of the plans of the least price."""
    check_prices(forest, prices)
    return laid_out(forest).count_least(prices)


def _times(factor, numbers):
    """All numbers multiplied by a factor."""
    return [factor * number for number in numbers]


def cheapest_keeping(forest, prices, notes):
    """The least one of those plans of the least price that keep most notes by their very places."""
    check_prices(forest, prices)
    if not is_notes(forest, notes):
        raise NoNotes()
    layout = laid_out(forest)
    kept = {places: True for places, asks in notes}
    # A plan has fewer notes than that: so all that it keeps weighs less than a price of 1.
    weight = len(forest.parents) + 1
    changes, asks = prices
    return layout.least_plan((_times(weight, changes), _times(weight, asks)), kept)


def corners(forest, prices):
    """The ascending list of the pairs of costs that are alone the least for some fraction."""
    check_prices(forest, prices)
    layout = laid_out(forest)
    # Greater than each part that a plan can cost: who multiplies by it looks at one part first.
    above = 1 + len(forest.parents) ** 2 * max([*prices[0], *prices[1]])
    first = _least_pair(layout, prices, above, above, 1)
    last = _least_pair(layout, prices, above, 1, above)
    found = [first]
    waiting = [(first, last)] if first != last else []
    while waiting:
        one, other = waiting.pop()
        between = _least_pair(layout, prices, above, one[1] - other[1], other[0] - one[0])
        # If nothing lies below the line through both, the first one of it is the least again.
        if between == one:
            found.append(other)
        else:
            waiting.extend([(one, between), (between, other)])
    return sorted(found)


def _least_pair(layout, prices, above, changes_weight, asks_weight):
    """The pair of costs that is least by the weights of its parts; of several the one of least changes."""
    changes, asks = prices
    # Changes come in twice: by their weight, and once more below all that is weighed.
    weighed = (_times(changes_weight * above + 1, changes), _times(asks_weight * above, asks))
    whole, changes_part = divmod(layout.least_in_all(weighed), above)
    return (changes_part, (whole - changes_weight * changes_part) // asks_weight)
