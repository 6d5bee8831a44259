"""What all that looks for least prices begins with: the checks, and the pieces laid out."""

from cutnotes.errors import NoPrices, TooMany
from cutnotes.forests import is_row
from cutnotes.kinds import is_pair_of_numbers
from cutnotes.layouts import Layout
from cutnotes.spans import Spans

MOST_PRICE = 1000000
MOST_PLACES_PRICED = 12


def check_prices(forest, prices):
    """Raises the error that is due if these are no prices of the forest."""
    if not is_pair_of_numbers(prices, len(forest.parents), MOST_PRICE):
        raise NoPrices()


def check_size(forest):
    """Raises the error that is due if the forest has too many pieces to look at all."""
    if len(forest.parents) > MOST_PLACES_PRICED and not is_row(forest):
        raise TooMany(MOST_PLACES_PRICED)


def laid_out(forest):
    """The pieces of a forest, laid out, if there are not too many."""
    check_size(forest)
    return Spans(len(forest.parents)) if is_row(forest) else Layout(forest)
