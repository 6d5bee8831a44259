"""What the tests of stores share: addings, and an account of a store that is kept by the words alone."""

from cutnotes.forests import Forest
from cutnotes.stores import Store
from common import H, is_over, nested, placed_notes, some_forest, some_plan


class Boom(Exception):
    """What an adding raises here."""


class Put:
    """Two things put together by an adding that brackets."""

    def __init__(self, one, other):
        self.one = one
        self.other = other


def flat(thing):
    """What a bracketed thing is put together of, from the left."""
    return flat(thing.one) + flat(thing.other) if isinstance(thing, Put) else [thing]


class Adding:
    """An adding of some kind; it raises an error behind so many calls if it is told to."""

    def __init__(self, kind):
        self.kind = kind
        self.left = None
        self.calls = 0

    def __call__(self, one, other):
        self.calls += 1
        if self.left is not None:
            if self.left == 0:
                raise Boom()
            self.left -= 1
        if self.kind == "any":
            return Put(one, other)
        return max(one, other) if self.kind == "greater" else one + other

    def atom(self, below):
        """An amount by chance."""
        if self.kind == "text":
            return "abcdefgh"[below(8)] * below(3)
        if self.kind == "greater":
            return below(50)
        if self.kind == "tuples":
            return tuple([below(9) for _ in range(below(3))])
        return ANY[below(len(ANY))]

    def is_right(self, told, atoms):
        """Whether what is told is what these amounts, downwards, come to."""
        if not atoms:
            return told is None
        if self.kind == "text":
            return told == "".join(atoms)
        if self.kind == "greater":
            return told == max(atoms)
        if self.kind == "tuples":
            return told == tuple([part for atom in atoms for part in atom])
        parts = flat(told)
        return len(parts) == len(atoms) and all(same(one, other) for one, other in zip(parts, atoms))


KINDS = ("text", "greater", "tuples", "any")
ANY = [None, (), [], {}, "", False, True, 0, 1, H, Forest((None,), (), ()), [None, []], {"a": [1]}, (None,), b"x",
       nested(20, "list"), range(3), len]


def same(one, other):
    return type(one) is type(other) and one == other


class Book:
    """An account of a store, kept by the words."""

    def __init__(self, forest, plan, amounts):
        self.forest, self.plan = forest, plan
        self.amounts = dict(zip(forest.bearing, amounts))
        self.notes = placed_notes(forest, plan)
        self.versions = {}
        self.next_version = 0
        self.make(list(self.notes))
        self.touched = self.asked = 0
        self.watched = {}
        self.marks = {}
        self.next_mark = 0

    def twin(self):
        other = Book(Forest((None,), (), ()), (1,), ())
        for name, value in vars(self).items():
            setattr(other, name, dict(value) if isinstance(value, dict) else value)
        return other

    def make(self, anew):
        """One version for all that have the very same places, another one each time."""
        by_places = {}
        for s in anew:
            places = self.notes[s][0]
            if places not in by_places:
                by_places[places] = self.next_version
                self.next_version += 1
            self.versions[s] = by_places[places]

    def over(self, place):
        """The amounts over an asking place, downwards."""
        return [self.amounts[i] for i in self.forest.bearing if is_over(self.forest, i, place)]

    def read_by(self, place):
        return len([s for s in self.notes if place in self.notes[s][1]])

    def change_all(self, changes):
        for place, amount in changes:
            self.amounts[place] = amount
        anew = [s for s in self.notes if any(place in self.notes[s][0] for place, _ in changes)]
        self.make(anew)
        self.touched += len(anew)
        for place, _ in changes:
            for other in self.watched:
                if is_over(self.forest, place, other):
                    self.watched[other] = True

    def news(self):
        told = [(place, self.over(place)) for place in sorted(self.watched) if self.watched[place]]
        self.asked += sum(self.read_by(place) for place, _ in told)
        self.watched = dict.fromkeys(self.watched, False)
        return told

    def hang(self, parent, level, asks, amounts):
        number = len(self.forest.parents)
        forest = Forest(self.forest.parents + (parent,), self.forest.bearing + (number,) * len(amounts),
                        self.forest.asking + (number,) * asks)
        self.lead_to(forest, self.plan + (level,), dict.fromkeys([number] * len(amounts), *amounts))
        return number

    def turn(self, forest, plan, amounts):
        anew = self.lead_to(forest, plan, amounts)
        self.watch_on()
        return anew

    def lead_to(self, forest, plan, amounts):
        old = {self.notes[s][0]: self.versions[s] for s in self.notes}
        self.amounts = {i: self.amounts[i] if i in self.forest.bearing else amounts[i] for i in forest.bearing}
        self.forest, self.plan = forest, plan
        self.notes = placed_notes(forest, plan)
        anew = [s for s in self.notes if self.notes[s][0] not in old]
        self.versions = {s: old[self.notes[s][0]] for s in self.notes if s not in anew}
        self.make(anew)
        self.touched += len(anew)
        return len(anew)

    def watch_on(self):
        self.watched = {place: True for place in self.watched if place in self.forest.asking}

    def mark(self):
        self.marks[self.next_mark] = (self.forest, self.plan, dict(self.amounts), self.notes, dict(self.versions))
        self.next_mark += 1
        return self.next_mark - 1

    def back_to(self, mark):
        self.forest, self.plan, amounts, self.notes, versions = self.marks[mark]
        self.amounts, self.versions = dict(amounts), dict(versions)
        self.watch_on()

    def at(self, mark):
        """What this account was when a mark was set."""
        other = self.twin()
        other.back_to(mark)
        return other

    def held(self):
        old = {version for mark in self.marks.values() for version in mark[4].values()}
        return len(old - set(self.versions.values()))


def agree(test, store, book, adding):
    """Compares all that a store tells, without being counted, with an account of it."""
    test.assertEqual(store.forest(), book.forest)
    test.assertEqual(store.plan(), book.plan)
    test.assertEqual((store.touched(), store.asked()), (book.touched, book.asked))
    test.assertEqual(store.watched(), tuple(sorted(book.watched)))
    test.assertEqual(store.marks(), tuple(sorted(book.marks)))
    test.assertEqual(store.held(), book.held())
    for place in book.forest.bearing:
        test.assertTrue(same(store.amount(place), book.amounts[place]))
    kept = store.kept()
    test.assertEqual(sorted(kept), sorted(book.notes))
    for s in kept:
        test.assertTrue(adding.is_right(kept[s], [book.amounts[i] for i in book.notes[s][0]]), (kept[s], s))


def agree_on_asks(test, store, book, adding):
    """Compares all answers, which are counted on both sides."""
    for place in book.forest.asking:
        test.assertTrue(adding.is_right(store.ask(place), book.over(place)))
        book.asked += book.read_by(place)
    test.assertEqual(store.asked(), book.asked)


def agree_on_news(test, store, book, adding):
    told, right = store.news(), book.news()
    test.assertIs(type(told), list)
    test.assertEqual([place for place, _ in told], [place for place, _ in right])
    for (_, answer), (_, atoms) in zip(told, right):
        test.assertTrue(adding.is_right(answer, atoms))
    test.assertTrue(all(type(item) is tuple for item in told))
    test.assertEqual(store.asked(), book.asked)


def begun_pair(test, below, forest, adding):
    """A store of some plan, with an account of it."""
    plan = some_plan(below, forest)
    amounts = tuple([adding.atom(below) for _ in forest.bearing])
    store = Store(forest, plan, amounts, adding)
    book = Book(forest, plan, amounts)
    agree(test, store, book, adding)
    return store, book


def some_changes(below, forest, adding, old):
    """Changes of none, one or several places, some of them with the amount that is there."""
    places = [place for place in forest.bearing if below(3) == 0]
    if below(4) == 0:
        places = places[::-1]
    pairs = [(place, old[place] if below(4) == 0 else adding.atom(below)) for place in places]
    return tuple(pairs) if below(2) else pairs


def are_changes(forest, thing):
    """Whether a thing is changes of a forest, by the words."""
    if type(thing) not in (list, tuple) or len(thing) > 60:
        return False
    if not all(type(item) is tuple and len(item) == 2 and type(item[0]) is int for item in thing):
        return False
    places = [place for place, _ in thing]
    return len(set(places)) == len(places) and set(places) <= set(forest.bearing)


def some_hang(below, book, adding):
    """A parent, a level, whether it asks, and amounts, for one more place."""
    parent = None if below(5) == 0 else below(len(book.plan))
    level = 1 if parent is None else 1 + below(book.plan[parent] + 1)
    return parent, level, below(3) > 0, (adding.atom(below),) if below(3) else ()


def some_turn(below, book, adding):
    """A forest of as many places or more, near the one that is there or a quite other one, a plan, and amounts."""
    many = min(60, len(book.plan) + below(3))
    other = some_forest(below, many)
    parents, bearing, asking = other.parents, other.bearing, other.asking
    if below(3):
        parents = book.forest.parents + parents[len(book.plan):]
    if below(3):
        bearing = tuple(sorted(set(book.forest.bearing) ^ {below(many)}))
    if below(3):
        asking = tuple(sorted(set(book.forest.asking) ^ {below(many)}))
    forest = Forest(parents, bearing, asking)
    plan = some_plan(below, forest)
    if below(2) and parents[:len(book.plan)] == book.forest.parents:
        plan = list(book.plan)
        for parent in parents[len(plan):]:
            plan.append(1 if parent is None else 1 + below(plan[parent] + 1))
        plan = tuple(plan)
    newly = [place for place in bearing if place not in book.forest.bearing]
    return forest, plan, {place: adding.atom(below) for place in reversed(newly)}
