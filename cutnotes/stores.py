"""Stores: they keep the notes of a plan while amounts, forest and plan change, with marks of elder states."""

from cutnotes.amounts import is_amounts, is_changes, reading_at
from cutnotes.errors import NoAmounts, NoChanges, NoFlag, NoForest, NoMark, NoNumber, NoPlace, NoPlan, TooMany
from cutnotes.forests import MOST_PLACES, Forest, is_asking, is_bearing, is_place, under
from cutnotes.kinds import is_between, is_integer
from cutnotes.plans import is_plan
from cutnotes.states import (
    anew_by_changes, anew_by_turn, changed_state, first_state, newly_bearing, turned_state)


class Store:
    """Keeps the notes of a plan for any adding that may be bracketed anyhow.

    What its attributes hold is exchanged, never changed: so a copy takes it over as it is, and a
    call that raises an error has changed nothing if it exchanges all at its end.
    """

    def __init__(self, forest, plan, amounts, adding):
        if not is_plan(forest, plan):
            raise NoPlan()
        if not is_amounts(forest, amounts):
            raise NoAmounts()
        borne = {place: amount for place, amount in zip(forest.bearing, amounts)}
        self._adding = adding
        self._state = first_state(forest, plan, borne, adding)
        self._time = 0
        self._touches = 0
        self._reads = 0
        # For each watched place whether something over it was changed.
        self._fresh = {}
        # The states of the marks by their numbers.
        self._marked = {}
        self._next_mark = 0

    def change(self, place, amount):
        """Gives a bearing place another amount."""
        if not is_bearing(self._state.hierarchy, place):
            raise NoPlace()
        self._change(((place, amount),))

    def change_all(self, changes):
        """Gives several bearing places other amounts; each note is made anew once."""
        if not is_changes(self._state.hierarchy, changes):
            raise NoChanges()
        self._change(changes)

    def _change(self, changes):
        """As change_all, of what is known to be changes."""
        before = self._state
        self._state = changed_state(before, changes, self._adding, self._time + 1)
        self._time += 1
        self._touches += anew_by_changes(before, changes)
        reached = {}
        for place, _ in changes:
            for below in under(before.hierarchy, place):
                reached[below] = True
        self._fresh = {place: self._fresh[place] or place in reached for place in self._fresh}

    def ask(self, place):
        """What the bearing places over an asking one hold together, None if there are none."""
        if not is_asking(self._state.hierarchy, place):
            raise NoPlace()
        answer = self._state.answer(self._adding, place)
        self._reads += len(reading_at(self._state.notes, place))
        return answer

    def amount(self, place):
        """The amount of a bearing place."""
        if not is_bearing(self._state.hierarchy, place):
            raise NoPlace()
        return self._state.amounts[place]

    def kept(self):
        """The dict from the places at which there are notes to what the places of these hold together."""
        state = self._state
        return {s: state.made[state.notes[s][0]][1] for s in state.notes}

    def touched(self):
        """How many notes were made anew so far."""
        return self._touches

    def asked(self):
        """How many notes were read so far by ask and news."""
        return self._reads

    def watch(self, place):
        """From now on an asking place is watched."""
        if not is_asking(self._state.hierarchy, place) or place in self._fresh:
            raise NoPlace()
        self._fresh = {**self._fresh, place: False}

    def unwatch(self, place):
        """From now on a watched place is watched no longer."""
        if not is_integer(place) or place not in self._fresh:
            raise NoPlace()
        self._fresh = {other: self._fresh[other] for other in self._fresh if other != place}

    def watched(self):
        """The lot of the watched places."""
        return tuple(sorted(self._fresh))

    def news(self):
        """The ascending list of the watched places over which something was changed, with their answers."""
        due = [place for place in self.watched() if self._fresh[place]]
        answers = [(place, self._state.answer(self._adding, place)) for place in due]
        self._reads += sum([len(reading_at(self._state.notes, place)) for place in due])
        self._fresh = {place: False for place in self._fresh}
        return answers

    def forest(self):
        """The forest as it is now."""
        return self._state.hierarchy

    def plan(self):
        """The plan as it is now."""
        return self._state.levels

    def hang(self, parent, level, asks, amounts):
        """Hangs one more place, as a root or at a place, and returns its number."""
        before = self._state.hierarchy
        if parent is not None and not is_place(before, parent):
            raise NoPlace()
        if not is_between(level, 1, 1 if parent is None else self._state.levels[parent] + 1):
            raise NoNumber()
        if not isinstance(asks, bool):
            raise NoFlag()
        if not isinstance(amounts, tuple) or len(amounts) > 1:
            raise NoAmounts()
        number = len(before.parents)
        if number == MOST_PLACES:
            raise TooMany(MOST_PLACES)
        bearing = before.bearing + (number,) if amounts else before.bearing
        asking = before.asking + (number,) if asks else before.asking
        hung = Forest(before.parents + (parent,), bearing, asking)
        self._turn(hung, self._state.levels + (level,), {number: amount for amount in amounts})
        return number

    def turn(self, forest, plan, amounts):
        """Goes on with another forest and a plan of it; returns how many notes were made anew."""
        if not isinstance(forest, Forest) or len(forest.parents) < len(self._state.hierarchy.parents):
            raise NoForest()
        if not is_plan(forest, plan):
            raise NoPlan()
        newly = newly_bearing(self._state, forest)
        if not isinstance(amounts, dict) or len(amounts) != len(newly):
            raise NoAmounts()
        if not all([place in amounts for place in newly]):
            raise NoAmounts()
        anew = self._turn(forest, plan, amounts)
        self._watch_on()
        return anew

    def _turn(self, forest, plan, amounts):
        """As turn, of what is known to be right, and without a look at what is watched."""
        before = self._state
        self._state = turned_state(before, forest, plan, amounts, self._adding, self._time + 1)
        self._time += 1
        anew = anew_by_turn(before, self._state)
        self._touches += anew
        return anew

    def _watch_on(self):
        """Lets go of watched places that no longer ask, and takes all others as changed."""
        self._fresh = {place: True for place in self._fresh if place in self._state.hierarchy.asking}

    def mark(self):
        """Sets a mark of all as it is now and returns its number."""
        number = self._next_mark
        self._marked = {**self._marked, number: self._state}
        self._next_mark += 1
        return number

    def _marked_state(self, mark):
        """The state of a mark that is kept."""
        if not is_integer(mark) or mark not in self._marked:
            raise NoMark()
        return self._marked[mark]

    def ask_at(self, mark, place):
        """What ask would have told when a mark was set."""
        state = self._marked_state(mark)
        if not is_asking(state.hierarchy, place):
            raise NoPlace()
        return state.answer(self._adding, place)

    def back_to(self, mark):
        """Makes forest, plan, amounts and notes what they were when a mark was set."""
        self._state = self._marked_state(mark)
        self._watch_on()

    def drop(self, mark):
        """Drops a mark."""
        self._marked_state(mark)
        self._marked = {number: self._marked[number] for number in self._marked if number != mark}

    def marks(self):
        """The lot of the marks that were set and not dropped."""
        return tuple(sorted(self._marked))

    def held(self):
        """How many unlike versions notes of marks have that the notes now have not."""
        now = self._state.versions()
        old = {version: True for number in self._marked for version in self._marked[number].versions()}
        return len([version for version in old if version not in now])

    def copy(self):
        """Another store that goes on apart."""
        # It begins with nothing that adding would put together, and takes over all that is here.
        other = Store(Forest((None,), (), ()), (1,), (), self._adding)
        other._state, other._time = self._state, self._time
        other._touches, other._reads = self._touches, self._reads
        other._fresh = self._fresh
        other._marked, other._next_mark = self._marked, self._next_mark
        return other

    def trying(self, action):
        """Calls a function with the store, puts everything back to what it was, and returns what it returned."""
        before = self.copy()
        try:
            return action(self)
        finally:
            self._state, self._time = before._state, before._time
            self._touches, self._reads = before._touches, before._reads
            self._fresh = before._fresh
            self._marked, self._next_mark = before._marked, before._next_mark
