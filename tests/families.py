"""Many small tables, each time the same ones, and types of them."""

from endlesskinds.tables import Table
from endlesskinds.types import size

ONE = ("one",)


class Dice:
    """Numbers that look thrown, but are reckoned."""

    def __init__(self, start):
        self.at = start * 7919 + 1

    def below(self, many):
        self.at = (self.at * 1103515245 + 12345) % 2 ** 31
        return (self.at >> 12) % many

    def one_of(self, things):
        return things[self.below(len(things))]


def some_type(dice, arities, leaves, deep):
    """A class type with one of some names, at most so deep above one of the leaves."""
    name = dice.one_of(list(arities))
    arguments = []
    for _ in range(arities[name]):
        if deep > 1 and dice.below(2):
            arguments.append(some_type(dice, arities, leaves, deep - 1))
        else:
            arguments.append(dice.one_of(leaves))
    return (name, *arguments)


def some_declared(dice, arities, letters, deep):
    leaves = [*letters, *letters, *letters, ONE] if letters else [ONE]
    while True:
        kind = some_type(dice, arities, leaves, deep)
        if size(kind) <= 6:
            return kind


def some_class(dice, name, arities, most, deep):
    letters = "YX"[:arities[name]]
    lower = {head: arities[head] for head in arities if head < name}
    parents = []
    if lower and dice.below(2):
        parents.append(some_declared(dice, lower, letters, deep))
    members = []
    for member in "ab"[:dice.below(most + 1)]:
        way = dice.one_of(["reads", "takes", "holds"])
        members.append((member, way, some_declared(dice, arities, letters, deep)))
    return (name, tuple((letter, "same") for letter in letters), tuple(parents), tuple(members))


def family(many, names="abc", most=2, deep=2):
    """Some tables of a class one and of others, each with a type of it."""
    found = []
    for start in range(many):
        dice = Dice(start + 1000 * len(names))
        arities = {name: dice.one_of([1, 1, 2]) for name in names}
        classes = [some_class(dice, name, arities, most, deep) for name in names]
        at = dice.below(len(classes) + 1)
        table = Table(*classes[:at], (ONE[0], (), (), ()), *classes[at:])
        found.append((table, some_type(dice, arities, [ONE], 3)))
    return found
