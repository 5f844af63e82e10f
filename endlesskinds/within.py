"""Whether one type may stand for another one [40] to [42]."""

from endlesskinds.checks import check_open_kind
from endlesskinds.errors import Endless
from endlesskinds.pairs import Pairs, is_pair
from endlesskinds.pools import Pool
from endlesskinds.webs import names_in, parent_cycle


def ancestors(table, kind):
    """The type itself, its parents, and the ancestors of these."""
    check_open_kind(table, kind)
    pool = Pool(table.classes)
    return pool.kinds_of(pool.ascending(pool.ancestors_of(pool.put_open(kind))))


def some_way_keeps(ways, pairs):
    """Whether one of some ways asks none but some pairs."""
    return any([all([pair in pairs for pair in way]) for way in ways])


def each_way_asks(ways, pairs):
    """Whether each of some ways asks one of some pairs."""
    return all([any([pair in pairs for pair in way]) for way in ways])


# What must hold of the ways of each pair that is told, and of the pairs ahead
# of it, or of all the pairs that are told.
BY_THOSE_AHEAD = {"within": some_way_keeps, "apart": each_way_asks}
BY_ALL = {"not": each_way_asks, "open": some_way_keeps}


def inquiry(table, one, other):
    """The pairs of a table, the pair of two types, and the ways of each pair that this one reaches."""
    check_open_kind(table, one)
    check_open_kind(table, other)
    cycle = parent_cycle(table.classes, names_in(one) + names_in(other))
    if cycle is not None:
        raise Endless(cycle)
    pairs = Pairs(table.classes)
    pair = pairs.put(one, other)
    return pairs, pair, pairs.reached_from(pair)


def solved(reached, word):
    """Those of the pairs reached that are within, or apart, each by those ahead of it."""
    holds = BY_THOSE_AHEAD[word]
    found = {}
    many = -1
    while many < len(found):
        many = len(found)
        # Backwards, as a pair is reached ahead of most of those that it asks.
        for pair in list(reached)[::-1]:
            if pair not in found and holds(reached[pair], found):
                found[pair] = True
    return list(found)


def answer(table, one, other):
    """Whether one type is within another one, apart from it, or goes round."""
    _, pair, reached = inquiry(table, one, other)
    for word in BY_THOSE_AHEAD:
        if pair in solved(reached, word):
            return word
    return "round"


def reasons(table, one, other):
    """What shows that the answer is right."""
    pairs, pair, reached = inquiry(table, one, other)
    left = []
    for word in BY_THOSE_AHEAD:
        rows = solved(reached, word)
        if pair in rows:
            return ((word, pairs.kinds_of(rows[:rows.index(pair) + 1])),)
        left.append(pairs.ascending([row for row in reached if row not in rows]))
    return (("not", pairs.kinds_of(left[0])), ("open", pairs.kinds_of(left[1])))


def are_solved(pairs, rows, word):
    """Whether each of some rows is within, or apart, by those ahead of it."""
    holds = BY_THOSE_AHEAD[word]
    ahead = {}
    for row in rows:
        if not holds(pairs.ways_of(row), ahead):
            return False
        ahead[row] = True
    return True


def are_left(pairs, rows, word):
    """Whether some rows are ascending, and each of them is not within, or not apart, by all of them."""
    holds = BY_ALL[word]
    if not all([pairs.precedes(row, following) for row, following in zip(rows, rows[1:])]):
        return False
    left = {row: True for row in rows}
    return all([holds(pairs.ways_of(row), left) for row in rows])


def shows(table, one, other, thing):
    """Whether any value shows that a pair is within or apart, or that it is not within or not apart."""
    pairs, pair, _ = inquiry(table, one, other)
    if not isinstance(thing, tuple) or len(thing) != 2 or not isinstance(thing[1], tuple):
        return False
    word = thing[0]
    if not isinstance(word, str) or not all([is_pair(table, row) for row in thing[1]]):
        return False
    rows = [pairs.put(row[0], row[1]) for row in thing[1]]
    if word in BY_THOSE_AHEAD:
        return rows[-1:] == [pair] and are_solved(pairs, rows, word)
    return word in BY_ALL and pair in rows and are_left(pairs, rows, word)
