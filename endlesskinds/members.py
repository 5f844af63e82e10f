"""The members that types have, and how those of a class go with those of its parents [60], [61]."""

from endlesskinds.checks import check_open_kind, check_table
from endlesskinds.classes import elders, heads_of
from endlesskinds.errors import Clash, Endless, NoType
from endlesskinds.lineage import Lineage, declared_members
from endlesskinds.webs import parent_cycle
from endlesskinds.within import answer


def check_clashes(lineage, names):
    """Raise Clash for the first of the classes with some names that clashes though none of its elders does."""
    for name in names:
        if name in lineage.clashes:
            raise Clash(name, lineage.clashes[name])


def members(table, kind):
    """The members of a class type, with their ways and types."""
    check_open_kind(table, kind)
    if isinstance(kind, str):
        raise NoType("a letter has no members")
    lineage = Lineage(table.classes)
    related = [kind[0], *elders(heads_of(table.classes), kind[0])]
    check_clashes(lineage, [name for name in table.names if name in related])
    found = lineage.members_of(kind)
    return tuple([(member, *found[member]) for member in sorted(found)])


def fits(table, one, other):
    """Whether a member fits another one of the same name, each told by its way and its type."""
    way, kind = one
    other_way, wanted = other
    if other_way == "reads":
        return way != "takes" and answer(table, kind, wanted) == "within"
    if other_way == "takes":
        return way != "reads" and answer(table, wanted, kind) == "within"
    return way == "holds" and kind == wanted


def misfits(table):
    """The members that a class declares and that do not fit a member of one of its parents."""
    check_table(table)
    lineage = Lineage(table.classes)
    check_clashes(lineage, table.names)
    cycle = parent_cycle(table.classes, table.names)
    if cycle is not None:
        raise Endless(cycle)
    found = {}
    for one in table.classes:
        for member, told in declared_members(one).items():
            for given in lineage.given[one[0]]:
                # All are asked, as each may raise TooMany.
                if member in given and not fits(table, told, given[member]):
                    found[(one[0], member)] = True
    return tuple(sorted(found))
