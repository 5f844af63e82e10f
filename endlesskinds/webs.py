"""The places of a table, and what is reached over them [32], [34], [41]."""

from endlesskinds.classes import declared, letters_of
from endlesskinds.cycles import first_cycle, links_over
from endlesskinds.types import class_types, parts


def names_in(kind):
    """The names of the classes in a type, each once."""
    return sorted({part[0] for part in class_types(parts(kind))})


class Web:
    """The places of some classes: for each its declared type, the classes in this, and its links.

    beside has the places that are of members, not of parents.
    """

    def __init__(self, classes):
        self.letters = {one[0]: letters_of(one) for one in classes}
        self.beside = [(one[0], len(one[2]) + at) for one in classes for at in range(len(one[3]))]
        self.kinds = {}
        self.heads = {}
        self.links = {}
        for one in classes:
            for number, kind in enumerate(declared(one)):
                place = (one[0], number)
                self.kinds[place] = kind
                self.heads[place] = names_in(kind)
                self.links[place] = links_over(one[0], kind, self.letters)


def ways_over(heads, names, places):
    """For each class that is reached from those with some names, the places over which it is."""
    ways = {name: () for name in names}
    rest = list(names)
    while rest:
        name = rest.pop(0)
        own = [(place, head) for place in places if place[0] == name for head in heads[place]]
        for place, head in own:
            if head not in ways:
                ways[head] = (*ways[name], place)
                rest.append(head)
    return ways


def steps_over(links, places):
    """The steps that some places make."""
    steps = {}
    for place in places:
        for one, other, length in links[place]:
            steps[(one, other)] = max(length, steps.get((one, other), 0))
    return steps


class Reach:
    """What is reached from the classes with some names, if some places are left out.

    ways has the classes that are reached, places those that they have, and
    steps those that are made there.
    """

    def __init__(self, web, names, left_out=()):
        places = [place for place in web.kinds if place not in left_out]
        self.ways = ways_over(web.heads, names, places)
        self.places = [place for place in places if place[0] in self.ways]
        self.steps = steps_over(web.links, self.places)


def reach_of(classes, kind):
    """What is reached from a type, if nothing is left out."""
    return Reach(Web(classes), names_in(kind))


def parent_cycle(classes, names):
    """The first of the shortest widening cycles of steps that come from parents.

    Those of the classes with some names are followed, those of the classes
    in these parents, and so on. None if there is no such cycle.
    """
    web = Web(classes)
    return first_cycle(Reach(web, names, web.beside).steps)
