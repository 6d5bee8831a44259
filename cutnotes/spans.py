"""Rows laid out: their pieces are spans from a place to a later one, which is much less to go through.

The cut at s of the span from a to b has the note of the places from a to s and the asks from s to b:
what it costs, with what it leaves, is one number of a and s, and one of s and b.
"""


def _running(numbers):
    """The sums of the first ones of numbers, from none of them on."""
    sums = [0]
    for number in numbers:
        sums.append(sums[-1] + number)
    return sums


class SpanSums:
    """What the cuts of spans cost, with the numbers of the spans that they leave.

    `numbers[a][many]` is the number of the span of so many places from a on, as far as they are told;
    `ahead[a]` has the costs of a and each s from a on, `behind[b]` those of b and each s from b back.
    Notes whose places are kept cost 1 less.
    """

    def __init__(self, prices, kept):
        changes, asks = prices
        self.changes_sums = _running(changes)
        self.asks_sums = _running(asks)
        self.cheaper = kept
        places = len(changes)
        self.ahead = [[] for _ in range(places)]
        self.behind = [[] for _ in range(places)]
        # No place at all, also behind the last one, has the number 0.
        self.numbers = [[0] for _ in range(places + 1)]

    def come_to(self, a, b):
        """The costs of the cuts of a span; the spans within it are come to, and have numbers, already."""
        changes_part = self.changes_sums[b + 1] - self.changes_sums[a]
        if self.cheaper and tuple(range(a, b + 1)) in self.cheaper:
            changes_part -= 1
        self.ahead[a].append(changes_part + self.numbers[a][b - a])
        self.behind[b].append(self.asks_sums[b + 1] - self.asks_sums[a] + self.numbers[a + 1][b - a])
        return self.wholes(a, b)

    def wholes(self, a, b):
        """The costs of the cuts of a span that was come to, by ascending s."""
        return [one + other for one, other in zip(self.ahead[a], self.behind[b][b - a::-1])]


class Spans:
    """All spans of a row; it tells what a Layout of the row tells, in a fraction of the time."""

    def __init__(self, places):
        # Ahead of each span stand all those within it.
        self.spans = [(a, b) for a in reversed(range(places)) for b in range(a, places)]
        self.places = places

    def _least(self, prices, kept):
        """The sums by which each span has its least cost as a number."""
        sums = SpanSums(prices, kept)
        for a, b in self.spans:
            sums.numbers[a].append(min(sums.come_to(a, b)))
        return sums

    def least_costs(self, prices):
        """The dict from all pieces to the least costs of their plans."""
        numbers = self._least(prices, {}).numbers
        return {tuple(range(a, b + 1)): numbers[a][b - a + 1] for a, b in self.spans}

    def least_in_all(self, prices):
        """The least cost of the row's plans."""
        return self._least(prices, {}).numbers[0][self.places]

    def is_floor(self, prices, numbers):
        """Whether a dict of integers has just the pieces as keys, and for each one no more than each cut costs."""
        if len(numbers) != len(self.spans):
            return False
        sums = SpanSums(prices, {})
        for a, b in self.spans:
            piece = tuple(range(a, b + 1))
            if piece not in numbers or numbers[piece] > min(sums.come_to(a, b)):
                return False
            sums.numbers[a].append(numbers[piece])
        return True

    def _cheap_cuts(self, sums):
        """For each span (a, b, cuts): the list of those cuts, counted from a, with which least plans begin."""
        found = []
        for a, b in self.spans:
            least = sums.numbers[a][b - a + 1]
            found.append((a, b, [s for s, whole in enumerate(sums.wholes(a, b)) if whole == least]))
        return found

    def least_plan(self, prices, kept):
        """The least plan of the least cost; notes whose places are kept cost 1 less."""
        # The levels of each span by its first place and length, and those of it one deeper.
        levels = [[()] for _ in range(self.places + 1)]
        deeper = [[()] for _ in range(self.places + 1)]
        for a, b, cuts in self._cheap_cuts(self._least(prices, kept)):
            best = min([levels[a][s] + (1,) + deeper[a + s + 1][b - a - s] for s in cuts])
            levels[a].append(best)
            deeper[a].append(tuple([level + 1 for level in best]))
        return levels[0][self.places]

    def count_least(self, prices):
        """The number of the row's plans that have the least cost."""
        # In a row each plan has one first cut: the last place of the level 1.
        counted = [[1] for _ in range(self.places + 1)]
        for a, b, cuts in self._cheap_cuts(self._least(prices, {})):
            counted[a].append(sum([counted[a][s] * counted[a + s + 1][b - a - s] for s in cuts]))
        return counted[0][self.places]
