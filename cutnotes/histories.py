"""Events of histories: which follow each other rightly, and which amounts an answer may be made of."""

from cutnotes.forests import is_asking, is_bearing
from cutnotes.kinds import is_integer

MOST_EVENTS = 200
# The word with which a deed ends, by the one with which it begins.
ENDS = {"change": "done", "ask": "told"}


def _is_event(forest, thing):
    """Whether a thing is an event by itself, whatever is ahead of it."""
    if not isinstance(thing, tuple) or len(thing) < 2 or not isinstance(thing[0], str):
        return False
    if not is_integer(thing[1]) or thing[1] < 0:
        return False
    if thing[0] == "change":
        return len(thing) == 4 and is_bearing(forest, thing[2])
    if thing[0] == "ask":
        return len(thing) == 3 and is_asking(forest, thing[2])
    if thing[0] == "done":
        return len(thing) == 2
    return thing[0] == "told" and len(thing) == 3


def are_events(forest, thing):
    """Whether a thing is a list or tuple of events each of which may follow those ahead of it."""
    if not isinstance(thing, (list, tuple)) or len(thing) > MOST_EVENTS:
        return False
    # For each deed that is begun the word that is to end it, None if it is ended.
    due = {}
    for event in thing:
        if not _is_event(forest, event):
            return False
        word, k = event[0], event[1]
        if word in ENDS:
            if k in due:
                return False
            due[k] = ENDS[word]
        else:
            if k not in due or due[k] != word:
                return False
            due[k] = None
    return True


def ends_of(history):
    """The dict from the deeds that end to the places in the history at which they do."""
    return {event[1]: at for at, event in enumerate(history) if event[0] not in ENDS}


def _is_outdated(lives, end, asked_at):
    """Whether behind such an end another change begins that ends ahead of the begin of an ask."""
    return any([end < begin and later_end < asked_at for begin, later_end, _ in lives])


def choices(lives, asked_at):
    """The list of the amounts that may be chosen, by triples (begin, end, amount) of all changes of a place."""
    return [amount for _, end, amount in lives if not _is_outdated(lives, end, asked_at)]
