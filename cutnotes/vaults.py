"""Vaults: a store on a medium whose power may fail at any write."""

from cutnotes.amounts import holding_one, is_amounts, is_changes, reading_at, together
from cutnotes.errors import NoAmounts, NoChanges, NoNumber, NoPlace, NoPlan, NotRecovered, NoVault, Stopped
from cutnotes.forests import is_asking, is_bearing
from cutnotes.kinds import is_between, is_integer
from cutnotes.plans import is_plan, notes_by_place

# The cell of what is due: changes that are begun and not yet ended, () if there are none.
DUE = ("due",)


class Medium:
    """Cells that are written one by one, as long as there is power."""

    def __init__(self):
        self._cells = {}
        # How many more writes are let, any number for None.
        self._left = None
        self._writes = 0

    def cells(self):
        """A new dict of the cells."""
        return {cell: self._cells[cell] for cell in self._cells}

    def write(self, cell, thing):
        """Writes a cell, if one more write is let."""
        if self._left == 0:
            raise Stopped()
        self._cells[cell] = thing
        self._writes += 1
        if self._left is not None:
            self._left -= 1

    def power(self, writes):
        """Lets so many more writes from now on, any number for None."""
        if writes is not None and (not is_integer(writes) or writes < 0):
            raise NoNumber()
        self._left = writes

    def written(self):
        """How many writes there were."""
        return self._writes


def _cells_of(forest, notes):
    """The dict of True by the cells of the amounts and notes of a vault."""
    cells = {("amount", place): True for place in forest.bearing}
    for s in notes:
        cells[("note", s)] = True
    return cells


class Vault:
    """Keeps the notes of a plan on a medium on which it was begun; all amounts and notes are read there."""

    def __init__(self, medium, forest, plan, adding):
        if not is_plan(forest, plan):
            raise NoPlan()
        notes = notes_by_place(forest, plan)
        cells = medium.cells()
        if DUE not in cells or not isinstance(cells[DUE], tuple) or not is_changes(forest, cells[DUE]):
            raise NoVault()
        own = _cells_of(forest, notes)
        if len(cells) != len(own) + 1 or not all([cell in cells for cell in own]):
            raise NoVault()
        self._medium = medium
        self._ground = forest
        self._notes = notes
        self._adding = adding

    def change_all(self, changes):
        """Gives several bearing places other amounts."""
        if not is_changes(self._ground, changes):
            raise NoChanges()
        if self._medium.cells()[DUE] != ():
            raise NotRecovered()
        due = tuple(changes)
        self._medium.write(DUE, due)
        self._carry_out(due)

    def _carry_out(self, due):
        """Writes the amounts that are due, all notes that hold one of them, and that nothing is due any more."""
        for place, amount in due:
            self._medium.write(("amount", place), amount)
        for s in reversed(holding_one(self._notes, [place for place, _ in due])):
            cells = self._medium.cells()
            held = together(self._adding, [cells[("amount", i)] for i in self._notes[s][0]])
            self._medium.write(("note", s), held)
        self._medium.write(DUE, ())

    def recover(self):
        """Writes all of what is due once more, and returns what that was."""
        due = self._medium.cells()[DUE]
        if due != ():
            self._carry_out(due)
        return due

    def ask(self, place):
        """What the bearing places over an asking one hold together, by the cells of notes as they are."""
        if not is_asking(self._ground, place):
            raise NoPlace()
        cells = self._medium.cells()
        return together(self._adding, [cells[("note", s)] for s in reading_at(self._notes, place)])


def begun(medium, forest, plan, amounts, adding):
    """Writes a store on a medium, and returns its vault."""
    if not is_plan(forest, plan):
        raise NoPlan()
    if not is_amounts(forest, amounts):
        raise NoAmounts()
    notes = notes_by_place(forest, plan)
    own = _cells_of(forest, notes)
    # The cell of what is due is none of these: where it is, something was begun to its end.
    if not all([cell in own for cell in medium.cells()]):
        raise NoVault()
    borne = {place: amount for place, amount in zip(forest.bearing, amounts)}
    # All is put together ahead of the first write: adding may raise an error.
    held = {s: together(adding, [borne[i] for i in notes[s][0]]) for s in notes}
    for place in forest.bearing:
        medium.write(("amount", place), borne[place])
    for s in reversed(list(notes)):
        medium.write(("note", s), held[s])
    medium.write(DUE, ())
    return Vault(medium, forest, plan, adding)


def seen(forest, plan, place, many):
    """The lot of the asking places that see a change of a place behind the first many of its notes."""
    if not is_plan(forest, plan):
        raise NoPlan()
    if not is_bearing(forest, place):
        raise NoPlace()
    notes = notes_by_place(forest, plan)
    written = list(reversed(holding_one(notes, [place])))
    if not is_between(many, 0, len(written)):
        raise NoNumber()
    return tuple(sorted([j for s in written[:many] for j in notes[s][1]]))
