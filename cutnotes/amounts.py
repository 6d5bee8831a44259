"""Amounts: what is right for them and for changes of them, and what several hold together."""

from cutnotes.forests import is_bearing

MOST_CHANGES = 60


def is_amounts(forest, thing):
    """Whether a thing is a tuple with an object for each bearing place."""
    return isinstance(thing, tuple) and len(thing) == len(forest.bearing)


def is_changes(forest, thing):
    """Whether a thing is a list or tuple of pairs of unlike bearing places and their amounts."""
    if not isinstance(thing, (list, tuple)) or len(thing) > MOST_CHANGES:
        return False
    changed = {}
    for item in thing:
        if not isinstance(item, tuple) or len(item) != 2:
            return False
        if not is_bearing(forest, item[0]) or item[0] in changed:
            return False
        changed[item[0]] = True
    return True


def together(adding, things):
    """What things come to, put together downwards, the uppermost first; None if there are none."""
    whole = None
    # What is told may itself be None: only the first one is taken as it is.
    for at, thing in enumerate(things):
        whole = adding(whole, thing) if at else thing
    return whole


def holding_one(notes, places):
    """The list of the places s at which, by the dict of notes, a note holds one of some places."""
    return [s for s in notes if any([place in notes[s][0] for place in places])]


def reading_at(notes, place):
    """The list of the places s at which, by the dict of notes, those are that an asking place reads, downwards."""
    return [s for s in notes if place in notes[s][1]]
