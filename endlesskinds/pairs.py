"""Pairs of types, and what their ways ask [40], [41].

A pair is told here by the numbers that a pool gives to its two types. Its ways
are told by the pairs that each of them asks; ways that fail are left out, as
nothing depends on them.
"""

from endlesskinds.checks import is_open_kind
from endlesskinds.classes import variances_of
from endlesskinds.errors import TooMany
from endlesskinds.pools import Pool

MOST_PAIRS = 400


def is_pair(table, thing):
    """Whether any value is a pair of types of a table, with whatever letters."""
    if not isinstance(thing, tuple) or len(thing) != 2:
        return False
    return is_open_kind(table, thing[0]) and is_open_kind(table, thing[1])


def way_fails(way, row, variances):
    """Whether a way fails: an argument for a parameter that is same is unlike that of the other type."""
    return any([
        variance == "same" and mine != theirs for mine, theirs, variance in zip(way[1:], row[1:], variances)])


def asked_by(way, row, variances):
    """The pairs that a way asks; it and the other type are told by their rows in the pool."""
    asked = []
    for mine, theirs, variance in zip(way[1:], row[1:], variances):
        if variance == "out":
            asked.append((mine, theirs))
        elif variance == "in":
            asked.append((theirs, mine))
    return asked


class Pairs:
    """The pairs of types of some classes."""

    def __init__(self, classes):
        self._variances = variances_of(classes)
        self._pool = Pool(classes)

    def put(self, one, other):
        """The numbers of two types."""
        return (self._pool.put_open(one), self._pool.put_open(other))

    def kinds_of(self, pairs):
        """The pairs of types that some pairs of numbers tell."""
        return tuple([self._pool.kinds_of(pair) for pair in pairs])

    def ways_of(self, pair):
        """The ways of a pair that do not fail."""
        row = self._pool.row_of(pair[1])
        variances = self._variances.get(row[0], [])
        rows = [self._pool.row_of(number) for number in self._pool.ancestors_of(pair[0])]
        ways = [way for way in rows if way[0] == row[0]]
        return [asked_by(way, row, variances) for way in ways if not way_fails(way, row, variances)]

    def reached_from(self, pair):
        """The ways of each pair that a pair reaches, if these are not too many."""
        reached = {}
        rest = [pair]
        while rest:
            one = rest.pop()
            if one in reached:
                continue
            reached[one] = self.ways_of(one)
            if len(reached) > MOST_PAIRS:
                raise TooMany("too many pairs are reached")
            rest.extend([asked for way in reached[one] for asked in way])
        return reached

    def precedes(self, one, other):
        """Whether a pair is less than another one: by the texts of the first types, then of the second ones."""
        at = 0 if one[0] != other[0] else 1
        return one[at] != other[at] and self._pool.precedes(one[at], other[at])

    def ascending(self, pairs):
        """Some different pairs, in their order."""
        numbers = self._pool.ascending([number for pair in pairs for number in pair])
        ranks = {number: rank for rank, number in enumerate(numbers)}
        return sorted(pairs, key=lambda pair: (ranks[pair[0]], ranks[pair[1]]))
