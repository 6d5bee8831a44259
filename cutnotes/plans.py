"""Cut plans: the levels of the places, the cuts that give them, and their notes."""

from cutnotes.errors import NoCuts, NoPlace, NoPlan
from cutnotes.forests import is_place, way
from cutnotes.kinds import is_between, is_integer


def is_plan(forest, thing):
    """Whether a thing is a plan of the forest."""
    if not isinstance(thing, tuple) or len(thing) != len(forest.parents):
        return False
    for place, parent in enumerate(forest.parents):
        # A parent comes ahead of its child: its level is checked already.
        most = 1 if parent is None else thing[parent] + 1
        if not is_between(thing[place], 1, most):
            return False
    return True


def _is_cuts(forest, thing):
    """Whether a thing is a tuple of all places of the forest, each once."""
    if not isinstance(thing, tuple) or len(thing) != len(forest.parents):
        return False
    # All are checked for integers ahead of sorting: other kinds may not compare.
    for item in thing:
        if not is_integer(item):
            return False
    return sorted(thing) == list(range(len(thing)))


def plan_of(forest, cuts):
    """The plan of cuts."""
    if not _is_cuts(forest, cuts):
        raise NoCuts()
    return tuple([_level(forest, cuts, place) for place in range(len(cuts))])


def _level(forest, cuts, place):
    """How many places over a place are taken ahead of all from there down to it."""
    level = 0
    earliest = len(cuts)
    for over in reversed(way(forest, place)):
        turn = cuts.index(over)
        if turn < earliest:
            earliest = turn
            level += 1
    return level


def cuts_of(forest, plan):
    """Cuts that have this plan."""
    if not is_plan(forest, plan):
        raise NoPlan()
    above = _stacks_above(forest, plan)
    order = []
    for place, level in enumerate(plan):
        # Right ahead of the first one that it drops from its parent's stack, it is
        # behind those that it keeps; what is dropped further on is behind that one.
        if level <= len(above[place]):
            order.insert(order.index(above[place][level - 1]), place)
        else:
            order.append(place)
    return tuple(order)


def _stacks(forest, plan):
    """The stack of each place, by what is known to be a plan."""
    found = []
    for place, parent in enumerate(forest.parents):
        above = () if parent is None else found[parent]
        found.append(above[:plan[place] - 1] + (place,))
    return found


def _stacks_above(forest, plan):
    """The stack of the parent of each place, () for a root."""
    found = _stacks(forest, plan)
    return [() if parent is None else found[parent] for parent in forest.parents]


def stack(forest, plan, place):
    """The stack of a place, by a plan."""
    if not is_plan(forest, plan):
        raise NoPlan()
    if not is_place(forest, place):
        raise NoPlace()
    return _stacks(forest, plan)[place]


def notes_of(forest, plan):
    """The notes of a plan, by ascending places at which they are."""
    if not is_plan(forest, plan):
        raise NoPlan()
    held = notes_by_place(forest, plan)
    return tuple([held[s] for s in held])


def notes_by_place(forest, plan):
    """The dict from the places s at which there are notes, ascending, to these, by what is known to be a plan."""
    found = _stacks(forest, plan)
    held = {}
    for s in range(len(plan)):
        places, asks = _note_at(forest, found, s)
        if places and asks:
            held[s] = (places, asks)
    return held


def _note_at(forest, found, place):
    """The pair of lots at a place, one of which may be empty, by the stacks of all."""
    held = way(forest, place)
    ahead = found[place][:-1]
    if ahead:
        held = held[held.index(ahead[-1]) + 1:]
    places = tuple([i for i in held if i in forest.bearing])
    asks = tuple([j for j in forest.asking if place in found[j]])
    return (places, asks)
