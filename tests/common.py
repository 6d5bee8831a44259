"""What several tests use: odd things, forests, and the document's words done step by step."""

from itertools import combinations, permutations, product

from cutnotes.forests import Forest, row
from cutnotes.stores import Store
from cutnotes.vaults import Medium, begun

H = Forest((None, 0, 0, 1), (0, 1, 2, 3), (0, 1, 2, 3))
S = row(2)
# Two roots, one of them alone; place 1 only bears, 3 only asks, 5 does neither.
MIXED = Forest((None, 0, None, 1, 1, 2), (0, 1, 2, 4), (0, 2, 3, 4))
LONE = Forest((None,), (), ())
A_STORE = Store(S, (1, 1), (0, 1), max)
A_MEDIUM = Medium()
A_VAULT = begun(A_MEDIUM, S, (1, 1), (0, 1), max)
BIG = 10 ** 59
# The greatest price.
MOST = 10 ** 6


def nested(depth, kind):
    """A thing nested so deep."""
    thing = 7
    for _ in range(depth):
        thing = {"list": [thing], "tuple": (thing,), "dict": {0: thing}}[kind]
    return thing


def a_function(*things):
    return 0


def odd_things():
    """Things of many kinds, none of them an integer, a lot, or an empty list."""
    return [
        None, True, False, "", "0", "(0,)", b"", b"\x00\x01", bytearray(b"\x00"), range(2), range(0),
        [0], [0, 1], [None], [[0], [0]], [(0,), (0,)], {}, {0: 1}, {0: (0,)}, {"a": [0]},
        (True,), (False,), (None, True), (0, True), (False, 1), (0, "1"), (None, None, "x"), ([0], [0]),
        ((0,), [0]), (1, 0), (0, 0), (-1, 0), (0, BIG, BIG), ("a", "b"), (None,) * 3,
        int, tuple, len, a_function, lambda: 0, object(), Ellipsis, NotImplemented, slice(0, 2),
        iter([0]), (item for item in (0,)), ValueError("x"), H, S, LONE, (H,), [S], {0: H},
        A_STORE, (A_STORE,), [A_STORE], A_MEDIUM, A_VAULT, (A_MEDIUM, A_VAULT),
        nested(40, "list"), nested(40, "tuple"), nested(40, "dict"),
        (0,) * 20000, [0] * 20000, ("x",) * 20000, {at: at for at in range(9000)},
        ([0] * 9000, (None,) * 9000),
    ]


def odd_numbers():
    """Things that are no place, no level and no count anywhere."""
    return [-1, -BIG, BIG] + [thing for thing in odd_things()] + [(), [], (0,)]


def has_flag(thing):
    """Whether a key is a flag, or has one within: no dict that is passed has such keys."""
    return isinstance(thing, bool) or isinstance(thing, tuple) and any(has_flag(part) for part in thing)


def can_be_key(thing):
    try:
        hash(thing)
    except TypeError:
        return False
    return not has_flag(thing)


def spoiled(thing, odd):
    """A thing with each part of it, at each depth, exchanged for the odd one, one at a time."""
    found = [odd]
    if isinstance(thing, dict):
        for key, value in thing.items():
            others = {other: thing[other] for other in thing if other != key}
            found += [{**others, key: other} for other in spoiled(value, odd)]
            found += [{**others, other: value} for other in spoiled(key, odd) if can_be_key(other)]
    if isinstance(thing, (list, tuple)):
        kind = type(thing)
        for at, item in enumerate(thing):
            for other in spoiled(item, odd):
                found.append(kind(list(thing[:at]) + [other] + list(thing[at + 1:])))
    return found


def shapes(places):
    """All tuples of parents of so many places."""
    return product(*[[None] + list(range(place)) for place in range(places)])


def lots(places):
    """All lots of places below so many."""
    return [lot for many in range(places + 1) for lot in combinations(range(places), many)]


def small_forests(most):
    """All forests of at most so many places."""
    for places in range(1, most + 1):
        for parents in shapes(places):
            for bearing, asking in product(lots(places), repeat=2):
                yield Forest(parents, bearing, asking)


def full_forests(places):
    """All forests of so many places in which all bear and ask."""
    for parents in shapes(places):
        yield Forest(parents, tuple(range(places)), tuple(range(places)))


def chance(seed):
    """A function that gives numbers below a bound, the same ones each run."""
    state = [seed]

    def below(bound):
        state[0] = (state[0] * 6364136223846793005 + 1442695040888963407) % 2 ** 64
        return (state[0] >> 33) % bound
    return below


def some_forest(below, places):
    """A forest of so many places, by chance."""
    parents = [None if place == 0 or below(8) == 0 else below(place) for place in range(places)]
    bearing = tuple([place for place in range(places) if below(3)])
    asking = tuple([place for place in range(places) if below(3)])
    return Forest(tuple(parents), bearing, asking)


def long_forest(below, places):
    """A forest with long ways, by chance."""
    parents = [None] + [max(0, place - 1 - below(3)) for place in range(1, places)]
    everywhere = tuple(range(places))
    return Forest(tuple(parents), everywhere, everywhere)


def is_over(forest, i, j):
    """Whether i is over j, by the words of [1.1]."""
    return i == j or forest.parents[j] is not None and is_over(forest, i, forest.parents[j])


def pairs_by_words(forest):
    return [(i, j) for i in forest.bearing for j in forest.asking if is_over(forest, i, j)]


def plans_by_words(forest):
    """All tuples of levels that [3.1] lets a plan have, ascending."""
    found = [()]
    for parent in forest.parents:
        found = [plan + (level,) for plan in found
                 for level in range(1, 2 if parent is None else plan[parent] + 2)]
    return sorted(found)


def cut_up(forest, cuts):
    """The hierarchy cut as [3.1] tells: the plan, and the dict of the notes made."""
    everywhere = range(len(forest.parents))
    roots = [place for place in everywhere if forest.parents[place] is None]
    pieces = [{place for place in everywhere if is_over(forest, root, place)} for root in roots]
    levels = [0] * len(forest.parents)
    made = {}
    for s in cuts:
        piece = [one for one in pieces if s in one][0]
        below = {place for place in piece if is_over(forest, s, place)}
        for place in below:
            levels[place] += 1
        places = tuple([i for i in forest.bearing if i in piece and is_over(forest, i, s)])
        asks = tuple([j for j in forest.asking if j in below])
        if places and asks:
            made[s] = (places, asks)
        pieces = [one for one in pieces if one != piece]
        children = [place for place in below if forest.parents[place] == s]
        left = [{place for place in below if is_over(forest, child, place)} for child in children]
        pieces += [one for one in left + [piece - below] if one]
    return tuple(levels), made


def all_cuts(forest):
    return permutations(range(len(forest.parents)))


def some_plan(below, forest):
    plan = []
    for parent in forest.parents:
        plan.append(1 if parent is None else 1 + below(plan[parent] + 1))
    return tuple(plan)


def stack_by_words(forest, plan, place):
    parent = forest.parents[place]
    if parent is None:
        return (place,)
    return stack_by_words(forest, plan, parent)[:plan[place] - 1] + (place,)


def placed_notes(forest, plan):
    """The dict from the places at which there are notes to these, by the words of [3.2]."""
    everywhere = range(len(forest.parents))
    stacks = [stack_by_words(forest, plan, place) for place in everywhere]
    found = {}
    for s in everywhere:
        at = stacks[s].index(s)
        ahead = stacks[s][at - 1] if at else None
        places = tuple([i for i in forest.bearing if is_over(forest, i, s) and (
            ahead is None or i != ahead and is_over(forest, ahead, i))])
        asks = tuple([j for j in forest.asking if s in stacks[j]])
        if places and asks:
            found[s] = (places, asks)
    return found


def notes_by_words(forest, plan):
    """The notes of a plan by the words of [3.2]."""
    return tuple(placed_notes(forest, plan).values())


def point_by_words(forest, notes):
    """For each place in how many notes it is, among the places and among the asks."""
    everywhere = range(len(forest.parents))
    return (tuple([sum(i in places for places, asks in notes) for i in everywhere]),
            tuple([sum(j in asks for places, asks in notes) for j in everywhere]))


def plan_points(forest):
    """The list of all plans with their points, by the words."""
    return [(plan, point_by_words(forest, notes_by_words(forest, plan))) for plan in plans_by_words(forest)]


def nowhere_greater(one, other):
    return all(a <= b for part, bounds in zip(one, other) for a, b in zip(part, bounds))


def is_piece_by_words(forest, lot):
    """Whether a lot of places is a piece that can come, by the words of [3.1]."""
    def way(top, place):
        return [p for p in range(len(forest.parents)) if is_over(forest, top, p) and is_over(forest, p, place)]
    return any(all(is_over(forest, top, place) and all(p in lot for p in way(top, place)) for place in lot)
               for top in lot)


def pieces_by_words(forest):
    return [lot for lot in lots(len(forest.parents)) if is_piece_by_words(forest, lot)]


def whole_pieces(forest):
    """The pieces of all places under each root."""
    everywhere = range(len(forest.parents))
    return [tuple([place for place in everywhere if is_over(forest, root, place)])
            for root in everywhere if forest.parents[root] is None]


def cut_piece(forest, piece, s):
    """The note of the cut at s of a piece, None if there is none, and the pieces that it leaves."""
    places = tuple([i for i in piece if i in forest.bearing and is_over(forest, i, s)])
    asks = tuple([j for j in piece if j in forest.asking and is_over(forest, s, j)])
    rest = tuple([place for place in piece if not is_over(forest, s, place)])
    left = [tuple([place for place in piece if is_over(forest, child, place)])
            for child in piece if forest.parents[child] == s]
    return ((places, asks) if places and asks else None), [part for part in [rest] + left if part]


def all_notes(forest):
    """All notes of a forest."""
    everywhere = lots(len(forest.parents))
    served = pairs_by_words(forest)
    return [(places, asks) for places in everywhere for asks in everywhere
            if places and asks and all((i, j) in served for i in places for j in asks)]


def lacking_by_words(forest, notes):
    """The least pair that is in none of the notes, or None."""
    short = [(i, j) for i, j in pairs_by_words(forest) if not any(i in a and j in b for a, b in notes)]
    return short[0] if short else None


def some_keeper(below, forest, many):
    """So many notes, by chance, that are a keeper, most of them overlapping."""
    held = list(notes_by_words(forest, some_plan(below, forest)))
    served = pairs_by_words(forest)
    while served and len(held) < many:
        s = below(len(forest.parents))
        places = tuple([i for i in forest.bearing if is_over(forest, i, s) and below(4)])
        asks = tuple([j for j in forest.asking if is_over(forest, s, j) and below(4)])
        if places and asks:
            held.insert(below(len(held) + 1), (places, asks))
        elif not below(3):
            i, j = served[below(len(served))]
            held.insert(below(len(held) + 1), ((i,), (j,)))
    return held


def near_numbers(thing, most):
    """Things near a pair of tuples of numbers from 0 to most, none of which is one."""
    first, second = thing
    found = [[first, second], (first,), (first, second, second), (), (second[:-1], second), (first, first[1:]),
             (first + (0,), second), (first, second + (0,)), (list(first), second), (first, list(second)),
             {0: first, 1: second}]
    for wrong in (-1, most + 1, -BIG, BIG, True, False, None, "0", (0,), [0], (), nested(38, "tuple")):
        found += [((wrong,) + first[1:], second), (first, second[:-1] + (wrong,))]
    return found


def some_prices(below, places):
    """Prices by chance: alike, many of them 0, small ones, or up to the greatest."""
    kind = below(5)
    if kind == 0:
        return ((below(3),) * places, (1 + below(2),) * places)
    if kind == 1:
        return tuple([tuple([0 if below(2) else below(3) for _ in range(places)]) for _ in range(2)])
    bound = 4 if kind == 2 else 30 if kind == 3 else MOST + 1
    return tuple([tuple([below(bound) for _ in range(places)]) for _ in range(2)])


def split_by_words(prices, notes):
    changes, asks = prices
    return (sum(changes[i] for places, _ in notes for i in places), sum(asks[j] for _, read in notes for j in read))


def costs_by_words(forest, prices):
    """The list of all plans with their notes and the two parts of their costs."""
    found = []
    for plan in plans_by_words(forest):
        notes = notes_by_words(forest, plan)
        found.append((plan, notes, split_by_words(prices, notes)))
    return found
