"""Whether what a type needs ends, and how deep it goes [31], [32]."""

from endlesskinds.checks import check_kind, check_table, is_integer
from endlesskinds.cycles import first_cycle, is_cycle
from endlesskinds.types import folded
from endlesskinds.webs import Reach, Web, names_in, reach_of, steps_over


def steps(table):
    """All steps between the points of a table, with their lengths."""
    check_table(table)
    links = Web(table.classes).links
    lengths = steps_over(links, list(links))
    return tuple([(one, other, lengths[(one, other)]) for one, other in sorted(lengths)])


def argument_depths(kinds, letters):
    """For each point that has arguments in some types how deep these are at the most."""
    found = {}

    def depth_above(name, depths):
        for letter, depth in zip(letters[name], depths):
            found[(name, letter)] = max(depth, found.get((name, letter), 0))
        return 1 + max(depths, default=0)

    for kind in kinds:
        folded(kind, lambda letter: 0, depth_above)
    return found


def deepest(depths, lengths):
    """The depth of the deepest type that is needed, if this ends.

    depths has for each point how deep its arguments are as they are written,
    lengths has the steps. No way over steps makes a height greater by coming
    back to its point, so there are no more rounds to go than points.
    """
    heights = {point: depths[point] for point in depths}
    for _ in depths:
        for one, other in lengths:
            heights[other] = max(heights[other], heights[one] + lengths[(one, other)])
    return 1 + max(heights.values(), default=0)


def verdict(table, kind):
    """Whether what a type needs is endless, and by which cycle, or ends, and at which depth."""
    check_kind(table, kind)
    web = Web(table.classes)
    reach = Reach(web, names_in(kind))
    cycle = first_cycle(reach.steps)
    if cycle is not None:
        return ("endless", cycle)
    kinds = [kind] + [web.kinds[place] for place in reach.places]
    return ("ends", deepest(argument_depths(kinds, web.letters), reach.steps))


def shows_verdict(table, kind, thing):
    """Whether any value is a right verdict: one with any widening cycle that the type reaches, too."""
    check_kind(table, kind)
    if not isinstance(thing, tuple) or len(thing) != 2:
        return False
    if thing[0] == "endless":
        return is_cycle(reach_of(table.classes, kind).steps, thing[1])
    return is_integer(thing[1]) and thing == verdict(table, kind)
