"""What the classes of a table declare as members and get from their parents [60]."""

from endlesskinds.classes import letters_of
from endlesskinds.types import filled


def declared_members(one):
    """The way and the type of each member that a class declares."""
    return {member: (way, kind) for member, way, kind in one[3]}


def first_clash(one, given):
    """The first member that a class does not declare and its parents give in unlike ways, None if there is none."""
    owned = declared_members(one)
    found = {}
    clashing = []
    for members in given:
        for member, told in members.items():
            if found.setdefault(member, told) != told and member not in owned:
                clashing.append(member)
    return min(clashing, default=None)


class Lineage:
    """The members of the classes of a table, each by its way and its type, with the letters of the class.

    given has for each class what its parents give, a dict for each, known has
    all of its members, and clashes has the first that clashes. Where an elder
    clashes none of these has the class, and a class that clashes is not known.
    """

    def __init__(self, classes):
        self.given = {}
        self.known = {}
        self.clashes = {}
        self._letters = {one[0]: letters_of(one) for one in classes}
        # No class is one of its own elders, so each round comes to the next ones.
        for _ in classes:
            for one in classes:
                if one[0] not in self.given and all([parent[0] in self.known for parent in one[2]]):
                    self._meet(one)

    def _meet(self, one):
        """Gather the members of a class, those of its parents being known."""
        given = [self.members_of(parent) for parent in one[2]]
        self.given[one[0]] = given
        clash = first_clash(one, given)
        if clash is not None:
            self.clashes[one[0]] = clash
            return
        known = {}
        for members in given:
            known.update(members)
        known.update(declared_members(one))
        self.known[one[0]] = known

    def members_of(self, kind):
        """The way and the type of each member of a class type whose class is known."""
        values = dict(zip(self._letters[kind[0]], kind[1:]))
        known = self.known[kind[0]]
        return {member: (way, filled(declared, values)) for member, (way, declared) in known.items()}
