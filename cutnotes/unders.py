"""What lies under every keeper: a plan whose notes touch and read at no place more."""

from cutnotes.errors import NoNotes
from cutnotes.notes import check_keeper, is_notes, is_within, point_of
from cutnotes.pieces import Cutting, root_pieces
from cutnotes.plans import is_plan, notes_of, plan_of


def _is_high(cutting, piece, notes, s):
    """Whether the place s of a piece is high for notes of the piece."""
    served = {}
    for places, asks in notes:
        if all([j in cutting.below[s] for j in asks]):
            for i in places:
                served[i] = True
    return all([i == s or i in served for i in cutting.bearing_over(piece, s)])


def _is_low(cutting, piece, notes, s):
    """Whether the place s of a piece is low for notes of the piece."""
    served = {}
    for places, asks in notes:
        if all([s in cutting.below[i] for i in places]):
            for j in asks:
                served[j] = True
    return all([j == s or j in served for j in cutting.asking_under(piece, s)])


def high(forest, notes):
    """The lot of the places that are high for a keeper."""
    check_keeper(forest, notes)
    cutting = Cutting(forest)
    everywhere = tuple(range(len(forest.parents)))
    return tuple([s for s in everywhere if _is_high(cutting, everywhere, notes, s)])


def low(forest, notes):
    """The lot of the places that are low for a keeper."""
    check_keeper(forest, notes)
    cutting = Cutting(forest)
    everywhere = tuple(range(len(forest.parents)))
    return tuple([s for s in everywhere if _is_low(cutting, everywhere, notes, s)])


def under_keeper(forest, notes):
    """A plan whose notes touch and read at no place more than a keeper."""
    check_keeper(forest, notes)
    cutting = Cutting(forest)
    order = []
    waiting = [(piece, _notes_within(notes, piece)) for piece in root_pieces(forest)]
    while waiting:
        piece, held = waiting.pop()
        s = _last_high(cutting, piece, held)
        order.append(s)
        waiting.extend([(part, _notes_within(held, part)) for part in cutting.parts(piece, s)])
    return plan_of(forest, tuple(order))


def _notes_within(notes, piece):
    """What notes hold of a piece, each such note once."""
    inside = {place: True for place in piece}
    found = {}
    for places, asks in notes:
        held = tuple([i for i in places if i in inside])
        read = tuple([j for j in asks if j in inside])
        if held and read:
            found[(held, read)] = True
    return list(found)


def _last_high(cutting, piece, notes):
    """A high place of a piece none of whose children there is high: it is low, too."""
    s = piece[0]
    # Children come behind their parents, so one walk meets those of each place that is taken.
    for place in piece:
        if cutting.parents[place] == s and _is_high(cutting, piece, notes, place):
            s = place
    return s


def is_under(forest, notes, thing):
    """Whether a thing is a plan whose notes touch and read at no place more than these notes."""
    if not is_notes(forest, notes):
        raise NoNotes()
    if not is_plan(forest, thing):
        return False
    return is_within(point_of(forest, notes_of(forest, thing)), point_of(forest, notes))
