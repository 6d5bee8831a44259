"""Texts of forests, plans and notes: a line for each place, one for all levels, one for each note."""

from cutnotes.errors import NoNotes, NoPlan
from cutnotes.notes import is_notes
from cutnotes.plans import is_plan


def forest_text(forest):
    """The text of a forest."""
    return "".join([_place_text(forest, place) for place in range(len(forest.parents))])


def _place_text(forest, place):
    """The line of a place: its parent, and whether it bears and asks."""
    parent = forest.parents[place]
    words = ["-" if parent is None else str(parent)]
    if place in forest.bearing:
        words.append("b")
    if place in forest.asking:
        words.append("a")
    return " ".join(words) + "\n"


def plan_text(forest, plan):
    """The text of a plan."""
    if not is_plan(forest, plan):
        raise NoPlan()
    return _numbers_text(" ", plan) + "\n"


def notes_text(forest, notes):
    """The text of notes."""
    if not is_notes(forest, notes):
        raise NoNotes()
    return "".join([_numbers_text(",", places) + " : " + _numbers_text(",", asks) + "\n" for places, asks in notes])


def _numbers_text(between, numbers):
    """Numbers, with a text between them."""
    return between.join([str(number) for number in numbers])
