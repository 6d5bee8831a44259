"""Floors: numbers of pieces that tell what no keeper costs less than."""

from cutnotes.errors import NoFloor
from cutnotes.kinds import is_integer
from cutnotes.layouts import Layout, charged, check_prices, check_size, least_costs, note_cost
from cutnotes.pieces import root_pieces


def floor(forest, prices):
    """A floor that bears most."""
    check_prices(forest, prices)
    check_size(forest)
    layout = Layout(forest)
    least = least_costs(layout, charged(layout, lambda note: note_cost(prices, note)))
    return {piece: cost for piece, cost in zip(layout.pieces, least)}


def is_floor(forest, prices, thing):
    """Whether a thing is a floor."""
    check_prices(forest, prices)
    check_size(forest)
    if not isinstance(thing, dict) or not all([is_integer(thing[piece]) for piece in thing]):
        return False
    layout = Layout(forest)
    if len(thing) != len(layout.pieces) or not all([piece in thing for piece in layout.pieces]):
        return False
    numbers = [thing[piece] for piece in layout.pieces]
    for number, cuts in zip(numbers, layout.cuts):
        for s, note, parts in cuts:
            if number > note_cost(prices, note) + sum([numbers[part] for part in parts]):
                return False
    return True


def borne(forest, prices, thing):
    """What a floor bears."""
    if not is_floor(forest, prices, thing):
        raise NoFloor()
    return sum([thing[piece] for piece in root_pieces(forest)])
