"""Budgets: a plan that keeps them, if anything does."""

from cutnotes.cases import Search, first_cases, is_budgets, led_to
from cutnotes.errors import NoBudgets, TooMany
from cutnotes.forests import is_row
from cutnotes.plans import plan_of
from cutnotes.reaching import reaches

MOST_PLACES_SEARCHED = 10


def plan_within(forest, budgets):
    """A plan whose notes keep budgets, or None."""
    if not is_budgets(forest, budgets):
        raise NoBudgets()
    if is_row(forest):
        order = _row_cuts(forest, budgets)
    elif len(forest.parents) > MOST_PLACES_SEARCHED:
        raise TooMany(MOST_PLACES_SEARCHED)
    else:
        order = _searched_cuts(forest, budgets)
    return None if order is None else plan_of(forest, tuple(order))


def _searched_cuts(forest, budgets):
    """Cuts that keep budgets, or None, by a search over all cases."""
    search = Search(forest)
    waiting = first_cases(forest, budgets)
    if not all([search.can_be_kept(case) for case in waiting]):
        return None
    order = []
    while waiting:
        case = waiting.pop()
        s = search.cuts[case]
        order.append(s)
        waiting.extend(led_to(search.cutting, case, s))
    return order


def _row_cuts(forest, budgets):
    """Cuts of a row that keep budgets, or None, by its reaches."""
    places = len(forest.parents)
    found = reaches(forest, budgets)
    if found[(0, 0, 0)] < places:
        return None
    order = []
    # Each part goes from a gap to another one, so many lefts and rights deep.
    waiting = [(0, 0, 0, places)]
    while waiting:
        gap, lefts, rights, end = waiting.pop()
        if gap == end:
            continue
        middle = found[(gap, lefts + 1, rights)]
        # What goes so far one left deeper may as well stand here: no way of it is longer.
        if middle >= end:
            waiting.append((gap, lefts + 1, rights, end))
        else:
            order.append(middle)
            waiting.append((gap, lefts + 1, rights, middle))
            waiting.append((middle + 1, lefts, rights + 1, end))
    return order
