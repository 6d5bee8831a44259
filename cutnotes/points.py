"""Least points: what of the points of all plans nothing is below."""

from cutnotes.counting import all_plans
from cutnotes.notes import check_keeper, is_within, point_of
from cutnotes.plans import notes_of


def least_points(forest):
    """The ascending list of the points of plans below which no keeper has another one."""
    told = {point_of(forest, notes_of(forest, plan)): True for plan in all_plans(forest)}
    found = []
    # What is below another point has a lesser sum: each is compared with those of lesser sums alone.
    for one in sorted(told, key=_sum_of):
        if not any([is_within(other, one) for other in found]):
            found.append(one)
    return sorted(found)


def _sum_of(one):
    """All touches and reads of a point, added."""
    touches, reads = one
    return sum(touches) + sum(reads)


def beaten(forest, notes):
    """A plan whose notes touch and read at no place more than a keeper, and at some place less, or None."""
    check_keeper(forest, notes)
    told = point_of(forest, notes)
    for plan in all_plans(forest):
        other = point_of(forest, notes_of(forest, plan))
        if other != told and is_within(other, told):
            return plan
    return None
