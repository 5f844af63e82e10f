"""Steps between points, and the widening cycles that they make [31].

Steps are a dict: for a pair of points, from which and to which a step leads,
its length.
"""

from endlesskinds.classes import all_differ
from endlesskinds.types import class_types, parts


def letter_depths(kind):
    """For each letter in a type the greatest depth at which it is found."""
    found = {}
    level = [kind]
    depth = 0
    while level:
        for part in level:
            if isinstance(part, str):
                found[part] = depth
        level = [argument for part in class_types(level) for argument in part[1:]]
        depth += 1
    return found


def links_over(name, kind, letters):
    """The points, two each, between which a declared type of a class makes steps, and how long these are.

    letters has, for the name of each class, those of its parameters.
    """
    links = []
    for part in class_types(parts(kind)):
        for other, argument in zip(letters[part[0]], part[1:]):
            depths = letter_depths(argument)
            links.extend([((name, letter), (part[0], other), depths[letter]) for letter in depths])
    return links


def around(cycle):
    """The pairs of points of a cycle between which a step must lead."""
    return list(zip(cycle, cycle[1:] + cycle[:1]))


def followers(steps):
    """For each point from which a step leads those to which one leads, ascending."""
    found = {}
    for one, other in sorted(steps):
        found.setdefault(one, []).append(other)
    return found


def first_cycle(steps):
    """The first of the shortest widening cycles of some steps, None if there is none.

    Ways over steps are followed from all points side by side, in ascending
    order. Of ways from one point to another one that have both widened, or
    both not, the first goes on alone: it can be closed wherever the others
    can. The first way that closes meets no point twice, as it would hold a
    shorter one that closes.
    """
    after = followers(steps)
    level = [((point,), False) for point in after]
    seen = {}
    while level:
        longer = []
        for way, widened in level:
            for point in after.get(way[-1], []):
                widens = widened or steps[(way[-1], point)] > 0
                if widens and point == way[0]:
                    return way
                state = (way[0], point, widens)
                if state not in seen:
                    seen[state] = True
                    longer.append(((*way, point), widens))
        level = longer
    return None


def is_cycle(steps, thing):
    """Whether any value is a widening cycle of some steps."""
    points = list(followers(steps))
    if not isinstance(thing, tuple) or not all([point in points for point in thing]):
        return False
    pairs = around(thing)
    if not all_differ(thing) or not all([pair in steps for pair in pairs]):
        return False
    return any([steps[pair] > 0 for pair in pairs])
