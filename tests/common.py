"""What several tests use: odd things, forests, and the document's words done step by step."""

from itertools import combinations, permutations, product

from cutnotes.forests import Forest, row

H = Forest((None, 0, 0, 1), (0, 1, 2, 3), (0, 1, 2, 3))
S = row(2)
# Two roots, one of them alone; place 1 only bears, 3 only asks, 5 does neither.
MIXED = Forest((None, 0, None, 1, 1, 2), (0, 1, 2, 4), (0, 2, 3, 4))
LONE = Forest((None,), (), ())
BIG = 10 ** 59


def nested(depth, kind):
    """A thing nested so deep."""
    thing = 7
    for _ in range(depth):
        thing = {"list": [thing], "tuple": (thing,), "dict": {0: thing}}[kind]
    return thing


def a_function(*things):
    return 0


def odd_things():
    """Things of many kinds, none of them an integer, a lot, or an empty list."""
    return [
        None, True, False, "", "0", "(0,)", b"", b"\x00\x01", bytearray(b"\x00"), range(2), range(0),
        [0], [0, 1], [None], [[0], [0]], [(0,), (0,)], {}, {0: 1}, {0: (0,)}, {"a": [0]},
        (True,), (False,), (None, True), (0, True), (False, 1), (0, "1"), (None, None, "x"), ([0], [0]),
        ((0,), [0]), (1, 0), (0, 0), (-1, 0), (0, BIG, BIG), ("a", "b"), (None,) * 3,
        int, tuple, len, a_function, lambda: 0, object(), Ellipsis, NotImplemented, slice(0, 2),
        iter([0]), (item for item in (0,)), ValueError("x"), H, S, LONE, (H,), [S], {0: H},
        nested(40, "list"), nested(40, "tuple"), nested(40, "dict"),
        (0,) * 20000, [0] * 20000, ("x",) * 20000, {at: at for at in range(9000)},
        ([0] * 9000, (None,) * 9000),
    ]


def odd_numbers():
    """Things that are no place, no level and no count anywhere."""
    return [-1, -BIG, BIG] + [thing for thing in odd_things()] + [(), [], (0,)]


def spoiled(thing, odd):
    """A thing with each part of it, at each depth, exchanged for the odd one, one at a time."""
    found = [odd]
    if isinstance(thing, (list, tuple)):
        kind = type(thing)
        for at, item in enumerate(thing):
            for other in spoiled(item, odd):
                found.append(kind(list(thing[:at]) + [other] + list(thing[at + 1:])))
    return found


def shapes(places):
    """All tuples of parents of so many places."""
    return product(*[[None] + list(range(place)) for place in range(places)])


def lots(places):
    """All lots of places below so many."""
    return [lot for many in range(places + 1) for lot in combinations(range(places), many)]


def small_forests(most):
    """All forests of at most so many places."""
    for places in range(1, most + 1):
        for parents in shapes(places):
            for bearing, asking in product(lots(places), repeat=2):
                yield Forest(parents, bearing, asking)


def full_forests(places):
    """All forests of so many places in which all bear and ask."""
    for parents in shapes(places):
        yield Forest(parents, tuple(range(places)), tuple(range(places)))


def chance(seed):
    """A function that gives numbers below a bound, the same ones each run."""
    state = [seed]

    def below(bound):
        state[0] = (state[0] * 6364136223846793005 + 1442695040888963407) % 2 ** 64
        return (state[0] >> 33) % bound
    return below


def some_forest(below, places):
    """A forest of so many places, by chance."""
    parents = [None if place == 0 or below(8) == 0 else below(place) for place in range(places)]
    bearing = tuple([place for place in range(places) if below(3)])
    asking = tuple([place for place in range(places) if below(3)])
    return Forest(tuple(parents), bearing, asking)


def long_forest(below, places):
    """A forest with long ways, by chance."""
    parents = [None] + [max(0, place - 1 - below(3)) for place in range(1, places)]
    everywhere = tuple(range(places))
    return Forest(tuple(parents), everywhere, everywhere)


def is_over(forest, i, j):
    """Whether i is over j, by the words of [1.1]."""
    return i == j or forest.parents[j] is not None and is_over(forest, i, forest.parents[j])


def pairs_by_words(forest):
    return [(i, j) for i in forest.bearing for j in forest.asking if is_over(forest, i, j)]


def plans_by_words(forest):
    """All tuples of levels that [3.1] lets a plan have, ascending."""
    found = [()]
    for parent in forest.parents:
        found = [plan + (level,) for plan in found
                 for level in range(1, 2 if parent is None else plan[parent] + 2)]
    return sorted(found)


def cut_up(forest, cuts):
    """The hierarchy cut as [3.1] tells: the plan, and the dict of the notes made."""
    everywhere = range(len(forest.parents))
    roots = [place for place in everywhere if forest.parents[place] is None]
    pieces = [{place for place in everywhere if is_over(forest, root, place)} for root in roots]
    levels = [0] * len(forest.parents)
    made = {}
    for s in cuts:
        piece = [one for one in pieces if s in one][0]
        below = {place for place in piece if is_over(forest, s, place)}
        for place in below:
            levels[place] += 1
        places = tuple([i for i in forest.bearing if i in piece and is_over(forest, i, s)])
        asks = tuple([j for j in forest.asking if j in below])
        if places and asks:
            made[s] = (places, asks)
        pieces = [one for one in pieces if one != piece]
        children = [place for place in below if forest.parents[place] == s]
        left = [{place for place in below if is_over(forest, child, place)} for child in children]
        pieces += [one for one in left + [piece - below] if one]
    return tuple(levels), made


def all_cuts(forest):
    return permutations(range(len(forest.parents)))
