"""Floors: numbers of pieces that tell what no keeper costs less than."""

from cutnotes.errors import NoFloor
from cutnotes.kinds import is_integer
from cutnotes.pieces import root_pieces
from cutnotes.pricing import check_prices, check_size, laid_out


def floor(forest, prices):
    """A floor that bears most."""
    check_prices(forest, prices)
    return laid_out(forest).least_costs(prices)


def is_floor(forest, prices, thing):
    """Whether a thing is a floor."""
    check_prices(forest, prices)
    check_size(forest)
    if not isinstance(thing, dict) or not all([is_integer(thing[piece]) for piece in thing]):
        return False
    return laid_out(forest).is_floor(prices, thing)


def borne(forest, prices, thing):
    """What a floor bears."""
    if not is_floor(forest, prices, thing):
        raise NoFloor()
    return sum([thing[piece] for piece in root_pieces(forest)])
