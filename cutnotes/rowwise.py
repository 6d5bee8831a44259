"""Rows: the polynomial that tells whether a keeper can be beaten, the longest rows, plans by their numbers."""

from math import comb

from cutnotes.errors import NoNumber, NoNumbers, NoRow
from cutnotes.forests import is_row
from cutnotes.kinds import is_between, is_numbers
from cutnotes.notes import check_keeper, point_of
from cutnotes.plans import cuts_of, is_plan, plan_of

# The most touches, and the most reads, that are asked for at a place.
MOST_AT_A_PLACE = 60


def weights(forest, notes):
    """The integers of the polynomial of a keeper of a row, that of x ** 0 first."""
    if not is_row(forest):
        raise NoRow()
    check_keeper(forest, notes)
    touches, reads = point_of(forest, notes)
    lefts = [*touches, 0]
    rights = [0, *reads]
    found = []
    # The gaps of most rights come first: each later round multiplies them by (1 - x) once.
    for right in reversed(range(max(rights) + 1)):
        found = _times_one_less(found)
        for gap, left in enumerate(lefts):
            if rights[gap] == right:
                found = found + [0] * (left + 1 - len(found))
                found[left] += 1
    while found and found[-1] == 0:
        found.pop()
    return tuple(found)


def _times_one_less(numbers):
    """The numbers of a polynomial, multiplied by (1 - x)."""
    return [one - other for one, other in zip([*numbers, 0], [0, *numbers])]


def is_unbeatable(forest, notes):
    """Whether no keeper's point is at no place greater than that of these notes, and at some place less."""
    return weights(forest, notes) == (1,)


def longest_row(touches, reads):
    """The most places of a row that can be kept with so many touches and so many reads at each place."""
    for number in (touches, reads):
        if not is_between(number, 0, MOST_AT_A_PLACE):
            raise NoNumber()
    return comb(touches + reads, touches) - 1


def _check_numbers(forest, thing):
    """Raises the error that is due if the forest is no row, or a thing is no such numbers of its places."""
    if not is_row(forest):
        raise NoRow()
    if not is_numbers(thing, len(forest.parents)) or max(thing) > MOST_AT_A_PLACE:
        raise NoNumbers()


def plan_by_reads(forest, reads):
    """The plan of a row whose notes have these reads, or None."""
    _check_numbers(forest, reads)
    # In a row there is a note at each place, so a place reads as many as its stack holds.
    return reads if is_plan(forest, reads) else None


def plan_by_touches(forest, touches):
    """The plan of a row whose notes have these touches, or None."""
    _check_numbers(forest, touches)
    # Seen from its other end a row has touches for reads; the cuts stay the same ones.
    mirrored = tuple(reversed(touches))
    if not is_plan(forest, mirrored):
        return None
    last = len(touches) - 1
    return plan_of(forest, tuple([last - place for place in cuts_of(forest, mirrored)]))
