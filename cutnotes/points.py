"""Least points: what of the points of all plans nothing is below."""

from cutnotes.counting import all_plans
from cutnotes.notes import check_keeper, is_within, point_of
from cutnotes.plans import notes_of


def least_points(forest):
    """The ascending list of the points of plans below which no keeper has another one."""
    told = {point_of(forest, notes_of(forest, plan)): True for plan in all_plans(forest)}
    found = []
    # What is at no place greater than a point is not behind it: all that could be below is looked at already.
    for one in sorted(told):
        if not any([is_within(other, one) for other in found]):
            found.append(one)
    return found


def beaten(forest, notes):
    """A plan whose notes touch and read at no place more than a keeper, and at some place less, or None."""
    check_keeper(forest, notes)
    told = point_of(forest, notes)
    for plan in all_plans(forest):
        other = point_of(forest, notes_of(forest, plan))
        if other != told and is_within(other, told):
            return plan
    return None
