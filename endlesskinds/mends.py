"""What to leave out so that what a type needs ends [34]."""

from endlesskinds.checks import check_kind, is_integer
from endlesskinds.classes import all_differ
from endlesskinds.cycles import around, first_cycle
from endlesskinds.webs import Reach, Web, names_in


def place_of(web, places, step):
    """The first of some places that makes a step, of just this length."""
    return [place for place in places if step in web.links[place]][0]


def to_leave_out(web, names, left_out):
    """Places over which a widening cycle is reached and goes, none of those that are left out.

    So one of them must be left out, too; there are none if it ends.
    """
    reach = Reach(web, names, left_out)
    cycle = first_cycle(reach.steps)
    if cycle is None:
        return []
    steps = [(one, other, reach.steps[(one, other)]) for one, other in around(cycle)]
    return [*reach.ways[cycle[0][0]], *[place_of(web, reach.places, step) for step in steps]]


def mend(table, kind):
    """The first of the shortest ascending tuples of places without which it ends."""
    check_kind(table, kind)
    web = Web(table.classes)
    names = names_in(kind)
    level = [()]
    mended = []
    # Each level has one place more than the one before. What mends must have
    # one of those that to_leave_out tells, so no shortest one is passed over.
    while not mended:
        longer = {}
        for left_out in level:
            places = to_leave_out(web, names, left_out)
            if not places:
                mended.append(left_out)
            for place in places:
                longer[tuple(sorted([*left_out, place]))] = True
        level = list(longer)
    return min(mended)


def is_place(places, thing):
    if not isinstance(thing, tuple) or len(thing) != 2:
        return False
    return is_integer(thing[1]) and thing in places


def shows_mend(table, kind, thing):
    """Whether any value is a tuple of different places without which it ends."""
    check_kind(table, kind)
    web = Web(table.classes)
    places = list(web.kinds)
    if not isinstance(thing, tuple) or not all([is_place(places, one) for one in thing]):
        return False
    return all_differ(thing) and first_cycle(Reach(web, names_in(kind), thing).steps) is None
