"""What kind a thing is: the checks that several files share."""


def is_integer(thing):
    """Whether a thing is an integer; True and False are none."""
    return isinstance(thing, int) and not isinstance(thing, bool)


def is_between(thing, least, most):
    """Whether a thing is an integer from least to most."""
    return is_integer(thing) and least <= thing <= most


def is_lot(thing):
    """Whether a thing is an ascending tuple of integers, each once."""
    if not isinstance(thing, tuple):
        return False
    # All are checked for integers ahead of comparing: other kinds may not compare.
    for item in thing:
        if not is_integer(item):
            return False
    for one, following in zip(thing, thing[1:]):
        if one >= following:
            return False
    return True


def is_numbers(thing, many):
    """Whether a thing is a tuple of so many integers from 0 on."""
    if not isinstance(thing, tuple) or len(thing) != many:
        return False
    for item in thing:
        if not is_integer(item) or item < 0:
            return False
    return True


def is_pair_of_numbers(thing, many, most):
    """Whether a thing is a pair of tuples, each of so many integers, one or more, from 0 to most."""
    if not isinstance(thing, tuple) or len(thing) != 2:
        return False
    for numbers in thing:
        if not is_numbers(numbers, many) or max(numbers) > most:
            return False
    return True
