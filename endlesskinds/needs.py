"""What a type needs, and why [30], [33]."""

from endlesskinds.checks import check_kind
from endlesskinds.cycles import first_cycle
from endlesskinds.errors import Endless, TooMany
from endlesskinds.pools import Pool
from endlesskinds.webs import reach_of

MOST_NEEDED = 100
LARGEST_NEEDED = 60


def number_layers(pool, number):
    """What layers yields for the type with a number, told by numbers."""
    last = [number]
    seen = {}
    while last:
        yield last
        for one in last:
            seen[one] = True
        following = [need for one in last for need in pool.needs_of(one)]
        last = pool.ascending([need for need in following if need not in seen])


def layers(table, kind):
    """The type alone, then again and again what the last ones need and none so far did."""
    check_kind(table, kind)
    pool = Pool(table.classes)
    first = pool.put(kind, {})
    for numbers in number_layers(pool, first):
        yield pool.kinds_of(numbers)


def check_end(table, kind):
    cycle = first_cycle(reach_of(table.classes, kind).steps)
    if cycle is not None:
        raise Endless(cycle)


def all_needs(pool, number):
    """The numbers of all types that the type with a number needs, ascending, if these are not too many."""
    found = []
    for numbers in number_layers(pool, number):
        found.extend(numbers)
        large = [one for one in numbers if pool.size_of(one) > LARGEST_NEEDED]
        if large or len(found) > MOST_NEEDED:
            raise TooMany("too many types are needed, or too large ones")
    return pool.ascending(found)


def needs(table, kind):
    """All types that a type needs."""
    check_kind(table, kind)
    check_end(table, kind)
    pool = Pool(table.classes)
    return pool.kinds_of(all_needs(pool, pool.put(kind, {})))


def first_ways(pool, number):
    """For each type that is needed the first of the shortest ways to it, all told by numbers."""
    ways = {number: (number,)}
    level = [number]
    # Each level is in the order of its ways, so that the first way that comes
    # to a type is the first one of all that are as short.
    while level:
        following = []
        for one in level:
            for need in pool.needs_of(one):
                if need not in ways:
                    ways[need] = (*ways[one], need)
                    following.append(need)
        level = following
    return ways


def why(table, kind, other):
    """The first of the shortest tuples from one type to another one, each type needed by the one before."""
    check_kind(table, kind)
    check_kind(table, other)
    check_end(table, kind)
    pool = Pool(table.classes)
    number = pool.put(kind, {})
    all_needs(pool, number)
    way = first_ways(pool, number).get(pool.put(other, {}))
    return None if way is None else pool.kinds_of(way)
