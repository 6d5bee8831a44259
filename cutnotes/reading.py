"""Reads the texts of forests, plans and notes."""

from cutnotes.errors import BadText, NoNotes, NoPlan
from cutnotes.forests import Forest
from cutnotes.notes import is_notes
from cutnotes.plans import is_plan

MOST_FIGURES = 9
# What may stand behind the parent on a line of a forest, split at each blank.
MARKED = ((), ("b",), ("a",), ("b", "a"))


def _is_number(word):
    """Whether a word is a number without needless zeros."""
    if not 1 <= len(word) <= MOST_FIGURES or not all([sign in "0123456789" for sign in word]):
        return False
    return word == "0" or word[0] != "0"


def _are_numbers(words):
    """Whether all words are numbers."""
    return all([_is_number(word) for word in words])


def _is_place_line(line):
    """Whether a line tells a place of a forest."""
    words = line.split(" ")
    return (words[0] == "-" or _is_number(words[0])) and tuple(words[1:]) in MARKED


def _is_plan_line(line):
    """Whether a line tells levels."""
    return _are_numbers(line.split(" "))


def _is_note_line(line):
    """Whether a line tells a note."""
    parts = line.split(" : ")
    return len(parts) == 2 and all([_are_numbers(part.split(",")) for part in parts])


def _lines(text, is_line, least, most):
    """The lines of a text, at least and at most so many (any number for None), each of a form."""
    if not isinstance(text, str):
        raise BadText(0)
    lines = text.split("\n")
    # Behind the last line feed nothing stands.
    behind = lines.pop()
    for number, line in enumerate(lines, start=1):
        if not is_line(line) or most is not None and number > most:
            raise BadText(number)
    if behind != "" or len(lines) < least:
        raise BadText(len(lines) + 1)
    return lines


def read_forest(text):
    """The forest of a text."""
    lines = [line.split(" ") for line in _lines(text, _is_place_line, 1, None)]
    parents = tuple([None if words[0] == "-" else int(words[0]) for words in lines])
    bearing = tuple([place for place, words in enumerate(lines) if "b" in words])
    asking = tuple([place for place, words in enumerate(lines) if "a" in words])
    return Forest(parents, bearing, asking)


def read_plan(forest, text):
    """The plan of a text."""
    lines = _lines(text, _is_plan_line, 1, 1)
    plan = _numbers(lines[0].split(" "))
    if not is_plan(forest, plan):
        raise NoPlan()
    return plan


def read_notes(forest, text):
    """The tuple of the notes of a text."""
    notes = []
    for line in _lines(text, _is_note_line, 0, None):
        places, asks = line.split(" : ")
        notes.append((_numbers(places.split(",")), _numbers(asks.split(","))))
    if not is_notes(forest, notes):
        raise NoNotes()
    return tuple(notes)


def _numbers(words):
    """The tuple of the numbers of words."""
    return tuple([int(word) for word in words])
