"""Notes of a forest: what they keep, and what they cost each place."""

from cutnotes.errors import NoKeeper, NoNotes
from cutnotes.forests import pairs
from cutnotes.kinds import is_lot

MOST_NOTES = 200


def is_notes(forest, thing):
    """Whether a thing is notes of the forest."""
    if not isinstance(thing, (list, tuple)) or len(thing) > MOST_NOTES:
        return False
    served = {pair: True for pair in pairs(forest)}
    for item in thing:
        if not _is_note(served, item):
            return False
    return True


def _is_note(served, thing):
    """Whether a thing is a note of the forest that has just the keys of served as pairs."""
    if not isinstance(thing, tuple) or len(thing) != 2:
        return False
    places, asks = thing
    if not is_lot(places) or not is_lot(asks) or not places or not asks:
        return False
    # A pair of the forest bears, asks, and is over: nothing else is left to check.
    for i in places:
        for j in asks:
            if (i, j) not in served:
                return False
    return True


def _counted(forest, notes):
    """For each pair of the forest in how many of the notes it is."""
    counts = {pair: 0 for pair in pairs(forest)}
    for places, asks in notes:
        for i in places:
            for j in asks:
                counts[(i, j)] += 1
    return counts


def _lacking(forest, notes):
    """As lacking, of what is known to be notes."""
    counts = _counted(forest, notes)
    return min([pair for pair in counts if counts[pair] == 0], default=None)


def _twice(forest, notes):
    """As twice, of what is known to be notes."""
    counts = _counted(forest, notes)
    return min([pair for pair in counts if counts[pair] > 1], default=None)


def is_keeper(forest, thing):
    """Whether a thing is notes that have each pair of the forest."""
    return is_notes(forest, thing) and _lacking(forest, thing) is None


def is_single(forest, thing):
    """Whether a thing is notes that have each pair of the forest just once."""
    return is_keeper(forest, thing) and _twice(forest, thing) is None


def lacking(forest, notes):
    """The least pair that is in none of the notes, or None."""
    if not is_notes(forest, notes):
        raise NoNotes()
    return _lacking(forest, notes)


def twice(forest, notes):
    """The least pair that is in several of the notes, or None."""
    if not is_notes(forest, notes):
        raise NoNotes()
    return _twice(forest, notes)


def check_keeper(forest, notes):
    """Raises the error that is due if these are no notes, or no keeper."""
    if lacking(forest, notes) is not None:
        raise NoKeeper()


def point(forest, notes):
    """For each place in how many notes it is, among the places and among the asks."""
    if not is_notes(forest, notes):
        raise NoNotes()
    return point_of(forest, notes)


def point_of(forest, notes):
    """As point, of what is known to be notes."""
    touches = [0] * len(forest.parents)
    reads = [0] * len(forest.parents)
    for places, asks in notes:
        for i in places:
            touches[i] += 1
        for j in asks:
            reads[j] += 1
    return (tuple(touches), tuple(reads))


def is_within(one, other):
    """Whether a point is at no place greater than another one, or than budgets."""
    for numbers, bounds in zip(one, other):
        for number, bound in zip(numbers, bounds):
            if number > bound:
                return False
    return True
