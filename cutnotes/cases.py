"""Cases: pieces with what is left of budgets, and where their cuts lead."""

from cutnotes.kinds import is_numbers, is_pair_of_numbers
from cutnotes.pieces import Cutting, is_piece, root_pieces

MOST_BUDGET = 60


def is_budgets(forest, thing):
    """Whether a thing is budgets of the forest."""
    return is_pair_of_numbers(thing, len(forest.parents), MOST_BUDGET)


def is_case(forest, thing):
    """Whether a thing is a case."""
    if not isinstance(thing, tuple) or len(thing) != 3:
        return False
    piece, touches, reads = thing
    return is_piece(forest, piece) and is_numbers(touches, len(piece)) and is_numbers(reads, len(piece))


def first_cases(forest, budgets):
    """The list of the cases of all places under each root, with their budgets."""
    touches, reads = budgets
    return [(piece, tuple([touches[i] for i in piece]), tuple([reads[j] for j in piece]))
            for piece in root_pieces(forest)]


def hindrance(cutting, case, s):
    """The reason for which the cut at s is not free, or None if it is free."""
    piece, touches, reads = case
    places, asks = cutting.note(piece, s)
    for place, left in zip(piece, touches):
        if left == 0 and place in places:
            return ("touch", place)
    for place, left in zip(piece, reads):
        if left == 0 and place in asks:
            return ("read", place)
    return None


def led_to(cutting, case, s):
    """The list of the cases to which a free cut at s leads."""
    piece, touches, reads = case
    places, asks = cutting.note(piece, s)
    touches_left = {place: left for place, left in zip(piece, touches)}
    reads_left = {place: left for place, left in zip(piece, reads)}
    for i in places:
        touches_left[i] -= 1
    for j in asks:
        reads_left[j] -= 1
    return [(part, tuple([touches_left[place] for place in part]), tuple([reads_left[place] for place in part]))
            for part in cutting.parts(piece, s)]


class Search:
    """What is found out of cases of a forest: a cut for those that can be kept, reasons for the others."""

    def __init__(self, forest):
        self.cutting = Cutting(forest)
        self.cuts = {}
        self.reasons = {}

    def can_be_kept(self, case):
        """Whether cuts keep what is left in a case."""
        if case not in self.cuts and case not in self.reasons:
            self.work_out(case)
        return case in self.cuts

    def work_out(self, case):
        """Finds a first cut that keeps what is left in a case, or a reason against each."""
        reasons = []
        for s in case[0]:
            reason = self.reason_against(case, s)
            if reason is None:
                self.cuts[case] = s
                return
            reasons.append(reason)
        self.reasons[case] = tuple(reasons)

    def reason_against(self, case, s):
        """A reason for which no cuts that begin at s keep what is left in a case, or None."""
        reason = hindrance(self.cutting, case, s)
        if reason is None:
            for led in led_to(self.cutting, case, s):
                if not self.can_be_kept(led):
                    return ("case", led)
        return reason
