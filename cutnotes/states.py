"""What a store is at one time, and how one state follows another one."""

from cutnotes.amounts import holding_one, reading_at, together
from cutnotes.plans import notes_by_place


class State:
    """Hierarchy, levels, amounts and notes at one time; it never changes, so that marks can keep it.

    `notes` are the notes by the places at which they are. Notes with the very same places are made
    together and hold the same: `made` tells, by these places, when that was, and what they hold.
    """

    def __init__(self, hierarchy, levels, amounts, notes, made):
        self.hierarchy = hierarchy
        self.levels = levels
        self.amounts = amounts
        self.notes = notes
        self.made = made

    def answer(self, adding, place):
        """What the bearing places over an asking one hold together."""
        return together(adding, [self.made[self.notes[s][0]][1] for s in reading_at(self.notes, place)])

    def versions(self):
        """The dict of True by the versions that the notes have: their places, and when they were made."""
        return {(places, self.made[places][0]): True for places in self.made}


def _all_made(amounts, notes, stay, adding, time):
    """For the places of all notes when they were made, and what they hold; what stays is as it was."""
    made = {}
    for s in notes:
        places = notes[s][0]
        if places in stay:
            made[places] = stay[places]
        elif places not in made:
            made[places] = (time, together(adding, [amounts[i] for i in places]))
    return made


def first_state(forest, plan, amounts, adding):
    """The state with which a store begins."""
    notes = notes_by_place(forest, plan)
    return State(forest, plan, amounts, notes, _all_made(amounts, notes, {}, adding, 0))


def anew_by_changes(state, changes):
    """The number of the notes that changes make anew."""
    return len(holding_one(state.notes, [place for place, _ in changes]))


def changed_state(state, changes, adding, time):
    """The state behind changes, made at a time."""
    amounts = {place: state.amounts[place] for place in state.amounts}
    for place, amount in changes:
        amounts[place] = amount
    stay = {}
    for places in state.made:
        if not any([place in places for place, _ in changes]):
            stay[places] = state.made[places]
    made = _all_made(amounts, state.notes, stay, adding, time)
    return State(state.hierarchy, state.levels, amounts, state.notes, made)


def newly_bearing(state, forest):
    """The list of the places that bear in a forest, and did not so far."""
    return [place for place in forest.bearing if place not in state.amounts]


def turned_state(state, forest, plan, new_amounts, adding, time):
    """The state behind a turn to another forest and plan, with the amounts of what newly bears."""
    amounts = {}
    for place in forest.bearing:
        amounts[place] = state.amounts[place] if place in state.amounts else new_amounts[place]
    notes = notes_by_place(forest, plan)
    return State(forest, plan, amounts, notes, _all_made(amounts, notes, state.made, adding, time))


def anew_by_turn(before, after):
    """The number of the notes of a state that were made anew when it followed another one by a turn."""
    return len([s for s in after.notes if after.notes[s][0] not in before.made])
