"""The errors of the package, each with the fields that tell what was wrong.

The messages are fixed: what is passed may be a thing that cannot be shown.
"""


class NoteError(ValueError):
    """What all errors of the package derive from."""


class BadForest(NoteError):
    """What is passed makes no forest: which part is wrong, and at what place, -1 for all of it."""

    def __init__(self, part, at):
        super().__init__("these make no forest")
        self.part = part
        self.at = at


class NoPlace(NoteError):
    """A thing is no place, or not one of the kind that is asked for."""

    def __init__(self):
        super().__init__("this is no such place")


class NoNumber(NoteError):
    """A thing is no integer, or not one of those that may stand there."""

    def __init__(self):
        super().__init__("this is no such number")


class NoNotes(NoteError):
    """A thing is no notes of the forest."""

    def __init__(self):
        super().__init__("these are no notes of the forest")


class NoKeeper(NoteError):
    """Notes lack a pair of the forest."""

    def __init__(self):
        super().__init__("these notes lack a pair")


class NoCuts(NoteError):
    """A thing is no tuple of all places, each once."""

    def __init__(self):
        super().__init__("these are no cuts of the forest")


class NoPlan(NoteError):
    """A thing is no plan of the forest."""

    def __init__(self):
        super().__init__("this is no plan of the forest")


class TooMany(NoteError):
    """There are more of something than the most that is dealt with."""

    def __init__(self, most):
        super().__init__("there are too many")
        self.most = most


class NoBudgets(NoteError):
    """A thing is no budgets of the forest."""

    def __init__(self):
        super().__init__("these are no budgets of the forest")


class NoRow(NoteError):
    """A forest is no row."""

    def __init__(self):
        super().__init__("this forest is no row")


class NoPrices(NoteError):
    """A thing is no prices of the forest."""

    def __init__(self):
        super().__init__("these are no prices of the forest")


class NoFloor(NoteError):
    """A thing is no floor of the forest."""

    def __init__(self):
        super().__init__("this is no floor")


class NoNumbers(NoteError):
    """A thing is no tuple of such a number for each place."""

    def __init__(self):
        super().__init__("these are no such numbers")


class NoTable(NoteError):
    """A thing is no table of who counts where."""

    def __init__(self):
        super().__init__("this is no table")


class NoAnswer(NoteError):
    """A stranger tells no labels for a place."""

    def __init__(self, place):
        super().__init__("no labels are told for a place")
        self.place = place


class NoAmounts(NoteError):
    """A thing is no amounts of the bearing places."""

    def __init__(self):
        super().__init__("these are no amounts")


class NoDeeds(NoteError):
    """A thing is no deeds."""

    def __init__(self):
        super().__init__("these are no deeds")


class NoTurns(NoteError):
    """A thing is no turns of the deeds."""

    def __init__(self):
        super().__init__("these are no turns")


class NoChanges(NoteError):
    """A thing is no changes of the forest."""

    def __init__(self):
        super().__init__("these are no changes")


class NoFlag(NoteError):
    """A thing is neither True nor False."""

    def __init__(self):
        super().__init__("this is no flag")


class NoForest(NoteError):
    """A thing is no forest, or not one that may follow."""

    def __init__(self):
        super().__init__("this is no such forest")


class NoMark(NoteError):
    """A thing is no number of a mark that is kept."""

    def __init__(self):
        super().__init__("there is no such mark")


class Stopped(NoteError):
    """A medium lets no more writes."""

    def __init__(self):
        super().__init__("no more writes are let")


class NoVault(NoteError):
    """A medium holds no such vault, or holds what is not one's."""

    def __init__(self):
        super().__init__("this medium holds no such vault")


class NotRecovered(NoteError):
    """A vault has something due that is to be recovered."""

    def __init__(self):
        super().__init__("something is due still")


class NoHistory(NoteError):
    """A thing is no history."""

    def __init__(self):
        super().__init__("this is no history")


class BadText(NoteError):
    """A text has not the form: which line is the first wrong one."""

    def __init__(self, line):
        super().__init__("this text has not the form")
        self.line = line
