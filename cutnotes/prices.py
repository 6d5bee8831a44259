"""Prices: what the cheapest notes cost, which plans they are, and all trades between the two parts."""

from cutnotes.errors import NoNotes
from cutnotes.layouts import (
    Layout, charged, check_prices, check_size, count_least, least_in_all, least_plan, note_cost, split_cost)
from cutnotes.notes import is_notes


def price_of(forest, prices, notes):
    """What notes cost, all together."""
    check_prices(forest, prices)
    if not is_notes(forest, notes):
        raise NoNotes()
    return sum([note_cost(prices, note) for note in notes])


def _by_prices(layout, prices):
    """What all cuts cost by prices."""
    return charged(layout, lambda note: note_cost(prices, note))


def least_price(forest, prices):
    """The least cost of a plan's notes."""
    check_prices(forest, prices)
    check_size(forest)
    layout = Layout(forest)
    return least_in_all(layout, _by_prices(layout, prices))


def cheapest(forest, prices):
    """The least plan of the least price."""
    check_prices(forest, prices)
    check_size(forest)
    layout = Layout(forest)
    return least_plan(layout, _by_prices(layout, prices))


def count_cheapest(forest, prices):
    """The number of the plans of the least price."""
    check_prices(forest, prices)
    check_size(forest)
    layout = Layout(forest)
    return count_least(layout, _by_prices(layout, prices))


def cheapest_keeping(forest, prices, notes):
    """The least one of those plans of the least price that keep most notes by their very places."""
    check_prices(forest, prices)
    if not is_notes(forest, notes):
        raise NoNotes()
    check_size(forest)
    layout = Layout(forest)
    kept = {places: True for places, asks in notes}
    # A plan has fewer notes than that: so all that it keeps weighs less than a price of 1.
    weight = len(forest.parents) + 1
    costs = charged(layout, lambda note: note_cost(prices, note) * weight - (1 if note[0] in kept else 0))
    return least_plan(layout, costs)


def corners(forest, prices):
    """The ascending list of the pairs of costs that are alone the least for some fraction."""
    check_prices(forest, prices)
    check_size(forest)
    layout = Layout(forest)
    splits = charged(layout, lambda note: split_cost(prices, note))
    # Greater than each part that a plan can cost: who multiplies by it looks at one part first.
    above = 1 + len(forest.parents) ** 2 * max([*prices[0], *prices[1]])
    first = _least_pair(layout, splits, above, above, 1)
    last = _least_pair(layout, splits, above, 1, above)
    found = [first]
    waiting = [(first, last)] if first != last else []
    while waiting:
        one, other = waiting.pop()
        between = _least_pair(layout, splits, above, one[1] - other[1], other[0] - one[0])
        # If nothing lies below the line through both, the first one of it is the least again.
        if between == one:
            found.append(other)
        else:
            waiting.extend([(one, between), (between, other)])
    return sorted(found)


def _least_pair(layout, splits, above, changes_weight, asks_weight):
    """The pair of costs that is least by the weights of its parts; of several the one of least changes."""
    costs = [[(changes_weight * changes + asks_weight * asks) * above + changes for changes, asks in splits_there]
             for splits_there in splits]
    weighed, changes_part = divmod(least_in_all(layout, costs), above)
    return (changes_part, (weighed - changes_weight * changes_part) // asks_weight)
