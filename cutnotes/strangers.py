"""Strangers, who tell by labels which notes each place is in."""

from cutnotes.errors import NoAnswer
from cutnotes.forests import pairs
from cutnotes.kinds import is_lot


def _asked(places, function):
    """The dict from places to the labels that a stranger's function tells of each."""
    told = {}
    for place in places:
        labels = function(place)
        if not is_lot(labels):
            raise NoAnswer(place)
        told[place] = labels
    return told


def _by_labels(told):
    """The dict from the labels told to the lists of the places that have them."""
    found = {}
    for place in told:
        for label in told[place]:
            found.setdefault(label, []).append(place)
    return found


def told_notes(forest, touching, reading):
    """The labels that both sides have, and for each the pair of the lots of the places that have it."""
    touched = _by_labels(_asked(forest.bearing, touching))
    read = _by_labels(_asked(forest.asking, reading))
    labels = tuple(sorted([label for label in touched if label in read]))
    return (labels, tuple([(tuple(touched[label]), tuple(read[label])) for label in labels]))


def wrong_pair(forest, touching, reading):
    """The least pair of places whose common labels are too few or too many, or None."""
    _, notes = told_notes(forest, touching, reading)
    counts = {(i, j): 0 for i in forest.bearing for j in forest.asking}
    for places, asks in notes:
        for i in places:
            for j in asks:
                counts[(i, j)] += 1
    for pair in pairs(forest):
        counts[pair] -= 1
    return min([pair for pair in counts if counts[pair] != 0], default=None)
