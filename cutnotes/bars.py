"""Bars: why budgets cannot be kept by anybody."""

from cutnotes.cases import Search, first_cases, hindrance, is_budgets, is_case, led_to
from cutnotes.errors import NoBudgets, TooMany
from cutnotes.kinds import is_integer
from cutnotes.pieces import Cutting

MOST_PLACES_BARRED = 10


def bar(forest, budgets):
    """A bar for budgets, or None if they can be kept."""
    if not is_budgets(forest, budgets):
        raise NoBudgets()
    if len(forest.parents) > MOST_PLACES_BARRED:
        raise TooMany(MOST_PLACES_BARRED)
    search = Search(forest)
    for case in first_cases(forest, budgets):
        if not search.can_be_kept(case):
            return _needed(search.reasons, case)
    return None


def _needed(reasons, first):
    """The reasons of a case and of all cases that they name."""
    found = {}
    waiting = [first]
    while waiting:
        case = waiting.pop()
        if case not in found:
            found[case] = reasons[case]
            waiting.extend([told for kind, told in reasons[case] if kind == "case"])
    return found


def is_bar(forest, budgets, thing):
    """Whether a thing is a bar for budgets."""
    if not is_budgets(forest, budgets):
        raise NoBudgets()
    if not isinstance(thing, dict) or not all([is_case(forest, case) for case in thing]):
        return False
    if not any([case in thing for case in first_cases(forest, budgets)]):
        return False
    cutting = Cutting(forest)
    return all([_are_reasons(forest, cutting, case, thing) for case in thing])


def _are_reasons(forest, cutting, case, told):
    """Whether a reason is told for each place of a case."""
    reasons = told[case]
    if not isinstance(reasons, tuple) or len(reasons) != len(case[0]):
        return False
    for s, reason in zip(case[0], reasons):
        if not isinstance(reason, tuple) or len(reason) != 2 or not isinstance(reason[0], str):
            return False
        if reason[0] == "case":
            if not _is_led_to(forest, cutting, case, s, reason[1]) or reason[1] not in told:
                return False
        elif not _is_used_up(cutting, case, s, reason):
            return False
    return True


def _is_used_up(cutting, case, s, reason):
    """Whether a reason names a place in the note at s that has no touch, or no read, left."""
    piece, touches, reads = case
    places, asks = cutting.note(piece, s)
    kind, place = reason
    if not is_integer(place):
        return False
    if kind == "touch":
        return place in places and touches[piece.index(place)] == 0
    return kind == "read" and place in asks and reads[piece.index(place)] == 0


def _is_led_to(forest, cutting, case, s, thing):
    """Whether a thing is a case to which a free cut at s leads."""
    # What is equal to a case is none if it has flags in the place of numbers.
    if not is_case(forest, thing) or hindrance(cutting, case, s) is not None:
        return False
    return thing in led_to(cutting, case, s)
