"""Reaches: how far parts of a row's plans can go within budgets."""

from cutnotes.cases import is_budgets
from cutnotes.errors import NoBudgets, NoRow
from cutnotes.forests import is_row
from cutnotes.kinds import is_integer, is_numbers


def _check_row_and_budgets(forest, budgets):
    """Raises the error that is due if the forest is no row, or these are no budgets."""
    if not is_row(forest):
        raise NoRow()
    if not is_budgets(forest, budgets):
        raise NoBudgets()


def _may_end(budgets, key):
    """Whether a gap may end behind so many cuts to the left, and to the right."""
    touches, reads = budgets
    gap, lefts, rights = key
    if gap < len(touches) and touches[gap] < lefts:
        return False
    return gap == 0 or reads[gap - 1] >= rights


def reaches(forest, budgets):
    """Reaches of a row within budgets, each number the least one that can stand there."""
    _check_row_and_budgets(forest, budgets)
    found = {}
    _reach(budgets, (0, 0, 0), found)
    return found


def _reach(budgets, key, found):
    """The number at a key, put into what is found with all that it needs.

    Each step goes one more to the left or to the right, and none goes on behind 60 of either:
    so the calls are nested about 120 deep at most.
    """
    if key in found:
        return found[key]
    places = len(budgets[0])
    gap, lefts, rights = key
    if not _may_end(budgets, key):
        number = gap - 1
    elif gap == places:
        number = places
    else:
        left_part = _reach(budgets, (gap, lefts + 1, rights), found)
        number = max(gap, left_part)
        if gap <= left_part < places:
            number = max(number, _reach(budgets, (left_part + 1, lefts, rights + 1), found))
    found[key] = number
    return number


def is_reaches(forest, budgets, thing):
    """Whether a thing is reaches of a row within budgets."""
    _check_row_and_budgets(forest, budgets)
    if not isinstance(thing, dict):
        return False
    # All keys and numbers are checked ahead of comparing: other kinds may not compare.
    for key, number in thing.items():
        if not is_numbers(key, 3) or key[0] > len(forest.parents) or not is_integer(number):
            return False
    return (0, 0, 0) in thing and all([_is_borne_out(budgets, key, thing) for key in thing])


def _is_borne_out(budgets, key, told):
    """Whether the number at a key is as great as the others require."""
    places = len(budgets[0])
    gap, lefts, rights = key
    number = told[key]
    if not _may_end(budgets, key):
        return number >= gap - 1
    if gap == places:
        return number >= places
    left_key = (gap, lefts + 1, rights)
    if number < gap or left_key not in told:
        return False
    left_part = told[left_key]
    if left_part < gap:
        return True
    if left_part >= places:
        return number >= left_part
    right_key = (left_part + 1, lefts, rights + 1)
    return number >= left_part and right_key in told and number >= told[right_key]
