"""All plans of a forest, counted and numbered."""

from cutnotes.errors import NoNumber, NoPlan, TooMany
from cutnotes.forests import way
from cutnotes.kinds import is_between
from cutnotes.plans import is_plan

MOST_PLANS = 2000


def _ways(forest):
    """For each place a list that tells at each level of it how many ways its lower ones have."""
    depths = [len(way(forest, place)) for place in range(len(forest.parents))]
    found = [[0] * (depth + 1) for depth in depths]
    # Children come behind their parents: from the last place on, theirs are told already.
    for place in reversed(range(len(depths))):
        children = [child for child, parent in enumerate(forest.parents) if parent == place]
        for level in range(1, depths[place] + 1):
            many = 1
            for child in children:
                many *= sum(found[child][1:level + 2])
            found[place][level] = many
    return found


def _total(forest, ways):
    """How many plans there are, by the ways of all places."""
    many = 1
    for place, parent in enumerate(forest.parents):
        if parent is None:
            many *= ways[place][1]
    return many


def count_plans(forest):
    """The number of plans."""
    return _total(forest, _ways(forest))


def plan_at(forest, number):
    """The plan with a number, of all plans in ascending order."""
    ways = _ways(forest)
    # So many plans begin with the levels that are chosen so far.
    alike = _total(forest, ways)
    if not is_between(number, 0, alike - 1):
        raise NoNumber()
    plan = []
    for place, parent in enumerate(forest.parents):
        most = 1 if parent is None else plan[parent] + 1
        others = alike // sum(ways[place][1:most + 1])
        level = 1
        while number >= others * ways[place][level]:
            number -= others * ways[place][level]
            level += 1
        plan.append(level)
        alike = others * ways[place][level]
    return tuple(plan)


def plan_number(forest, plan):
    """The number of a plan, of all plans in ascending order."""
    if not is_plan(forest, plan):
        raise NoPlan()
    ways = _ways(forest)
    alike = _total(forest, ways)
    number = 0
    for place, parent in enumerate(forest.parents):
        most = 1 if parent is None else plan[parent] + 1
        others = alike // sum(ways[place][1:most + 1])
        number += others * sum(ways[place][1:plan[place]])
        alike = others * ways[place][plan[place]]
    return number


def all_plans(forest):
    """The ascending list of all plans."""
    if count_plans(forest) > MOST_PLANS:
        raise TooMany(MOST_PLANS)
    found = [()]
    for parent in forest.parents:
        found = [plan + (level,) for plan in found
                 for level in range(1, 2 if parent is None else plan[parent] + 2)]
    return found
