"""Deeds woven note by note, and histories of stores, whose answers are judged."""

from cutnotes.amounts import holding_one, is_amounts, reading_at, together
from cutnotes.errors import NoAmounts, NoDeeds, NoHistory, NoPlan, NoTurns, TooMany
from cutnotes.forests import is_asking, is_bearing, way
from cutnotes.histories import are_events, choices, ends_of
from cutnotes.kinds import is_between
from cutnotes.plans import is_plan, notes_by_place

MOST_CHOICES = 2000
MOST_DEEDS = 20
MOST_TURNS = 400


def is_history(forest, thing):
    """Whether a thing is a history of changes and asks."""
    return are_events(forest, thing)


def wrong_answer(forest, amounts, adding, history):
    """The place in a history of the first answer that is not possible, or None."""
    if not is_amounts(forest, amounts):
        raise NoAmounts()
    if not is_history(forest, history):
        raise NoHistory()
    ends = ends_of(history)
    # Of each place (begin, end, amount) of its changes so far; what is there at first is behind its end already.
    lives = {place: [(-1, -1, amount)] for place, amount in zip(forest.bearing, amounts)}
    asks = {}
    for at, event in enumerate(history):
        word, k = event[0], event[1]
        if word == "change":
            lives[event[2]].append((at, ends.get(k, len(history)), event[3]))
        if word == "ask":
            asks[k] = (at, event[2])
        if word == "told":
            asked_at, place = asks[k]
            chosen = [choices(lives[i], asked_at) for i in way(forest, place) if i in lives]
            if not _is_possible(adding, chosen, event[2]):
                return at
    return None


def _is_possible(adding, chosen, answer):
    """Whether an answer is what some choice comes to, of one amount out of each list, downwards."""
    many = 1
    for amounts in chosen:
        many *= len(amounts)
    if many > MOST_CHOICES:
        raise TooMany(MOST_CHOICES)
    wholes = chosen[0] if chosen else [None]
    for amounts in chosen[1:]:
        wholes = [adding(whole, amount) for whole in wholes for amount in amounts]
    return any([whole == answer for whole in wholes])


def _is_deed(forest, thing):
    """Whether a thing is a deed."""
    if not isinstance(thing, tuple) or len(thing) < 2 or not isinstance(thing[0], str):
        return False
    if thing[0] == "change":
        return len(thing) == 3 and is_bearing(forest, thing[1])
    return thing[0] == "ask" and len(thing) == 2 and is_asking(forest, thing[1])


def _is_deeds(forest, thing):
    """Whether a thing is a list or tuple of deeds."""
    if not isinstance(thing, (list, tuple)) or len(thing) > MOST_DEEDS:
        return False
    return all([_is_deed(forest, item) for item in thing])


def _is_turns(deeds, thing):
    """Whether a thing is a list or tuple of numbers of deeds."""
    if not isinstance(thing, (list, tuple)) or len(thing) > MOST_TURNS:
        return False
    return all([is_between(item, 0, len(deeds) - 1) for item in thing])


def woven(forest, plan, amounts, adding, deeds, turns):
    """The history of deeds that go on by one note at each of their turns."""
    if not is_plan(forest, plan):
        raise NoPlan()
    if not is_amounts(forest, amounts):
        raise NoAmounts()
    if not _is_deeds(forest, deeds):
        raise NoDeeds()
    if not _is_turns(deeds, turns):
        raise NoTurns()
    borne = {place: amount for place, amount in zip(forest.bearing, amounts)}
    loom = Loom(notes_by_place(forest, plan), borne, adding)
    for k in turns:
        loom.turn(k, deeds[k])
    return tuple(loom.events)


class Loom:
    """Notes that several deeds change and read, a note at each turn."""

    def __init__(self, notes, amounts, adding):
        self.notes = notes
        self.amounts = amounts
        self.adding = adding
        self.sums = {s: self.put_together(s) for s in notes}
        self.events = []
        # For each deed that is begun the notes that it has still ahead; for each ask what it read.
        self.ahead = {}
        self.read = {}

    def put_together(self, s):
        """What the places of a note hold together by the amounts as they are now."""
        return together(self.adding, [self.amounts[i] for i in self.notes[s][0]])

    def turn(self, k, deed):
        """Begins a deed, or goes on with it, and ends it if no note is ahead."""
        if k not in self.ahead:
            self.begin(k, deed)
        elif not self.ahead[k]:
            return
        if self.ahead[k]:
            self.go_on(k, deed)
        if not self.ahead[k]:
            self.end(k, deed)

    def begin(self, k, deed):
        """Begins a deed: a change sets its amount."""
        self.events.append((deed[0], k) + deed[1:])
        if deed[0] == "change":
            self.amounts[deed[1]] = deed[2]
            self.ahead[k] = list(reversed(holding_one(self.notes, [deed[1]])))
        else:
            self.ahead[k] = reading_at(self.notes, deed[1])
            self.read[k] = []

    def go_on(self, k, deed):
        """Goes on by one note."""
        s = self.ahead[k].pop(0)
        if deed[0] == "change":
            self.sums[s] = self.put_together(s)
        else:
            self.read[k].append(self.sums[s])

    def end(self, k, deed):
        """Ends a deed: an ask tells what it read."""
        if deed[0] == "change":
            self.events.append(("done", k))
        else:
            self.events.append(("told", k, together(self.adding, self.read[k])))
