"""Many small tables, each time the same ones, and types of them."""

from endlesskinds.errors import Turned
from endlesskinds.tables import Table
from endlesskinds.types import size
from endlesskinds.within import ancestors

ONE = ("one",)


class Dice:
    """Numbers that look thrown, but are reckoned."""

    def __init__(self, start):
        self.at = start * 7919 + 1

    def below(self, many):
        self.at = (self.at * 1103515245 + 12345) % 2 ** 31
        return (self.at >> 12) % many

    def one_of(self, things):
        return things[self.below(len(things))]


def some_type(dice, arities, leaves, deep):
    """A class type with one of some names, at most so deep above one of the leaves."""
    name = dice.one_of(list(arities))
    arguments = []
    for _ in range(arities[name]):
        if deep > 1 and dice.below(2):
            arguments.append(some_type(dice, arities, leaves, deep - 1))
        else:
            arguments.append(dice.one_of(leaves))
    return (name, *arguments)


def some_declared(dice, arities, letters, deep):
    leaves = [*letters, *letters, *letters, ONE] if letters else [ONE]
    while True:
        kind = some_type(dice, arities, leaves, deep)
        if size(kind) <= 6:
            return kind


def some_class(dice, name, arities, most, deep):
    letters = "YX"[:arities[name]]
    lower = {head: arities[head] for head in arities if head < name}
    parents = []
    if lower and dice.below(2):
        parents.append(some_declared(dice, lower, letters, deep))
    members = []
    for member in "ab"[:dice.below(most + 1)]:
        way = dice.one_of(["reads", "takes", "holds"])
        members.append((member, way, some_declared(dice, arities, letters, deep)))
    return (name, tuple((letter, "same") for letter in letters), tuple(parents), tuple(members))


def family(many, names="abc", most=2, deep=2):
    """Some tables of a class one and of others, each with a type of it."""
    found = []
    for start in range(many):
        dice = Dice(start + 1000 * len(names))
        arities = {name: dice.one_of([1, 1, 2]) for name in names}
        classes = [some_class(dice, name, arities, most, deep) for name in names]
        at = dice.below(len(classes) + 1)
        table = Table(*classes[:at], (ONE[0], (), (), ()), *classes[at:])
        found.append((table, some_type(dice, arities, [ONE], 3)))
    return found


def graded_class(dice, name, arities, most, deep):
    """A class like those above, with other variances, up to two parents, and arguments of all classes in these."""
    letters = "YX"[:arities[name]]
    leaves = [*letters, *letters, ONE] if letters else [ONE]
    lower = [head for head in arities if head < name]
    parents = []
    for _ in range(dice.below(3) if lower else 0):
        parent = [dice.one_of(lower)]
        for _ in range(arities[parent[0]]):
            parent.append(dice.one_of(leaves) if dice.below(2) else some_declared(dice, arities, letters, deep))
        if size(tuple(parent)) <= 6:
            parents.append(tuple(parent))
    _, _, _, members = some_class(dice, name, arities, most, deep)
    short = [(member, way, dice.one_of(leaves)) if dice.below(2) else (member, way, kind)
             for member, way, kind in members]
    return (name, tuple((letter, dice.one_of(["out", "in", "same"])) for letter in letters), tuple(parents),
            tuple(short))


def graded(many, names="abcd", most=2, deep=2):
    """Some tables of a class one and of others, with all variances, the later ones often below the earlier ones."""
    found = []
    start = 0
    while len(found) < many:
        start += 1
        dice = Dice(start + 1000 * len(names) + 100000)
        arities = {name: dice.one_of([0, 1, 1, 2]) for name in names}
        arities[ONE[0]] = 0
        classes = [graded_class(dice, name, arities, most, deep) for name in names]
        at = dice.below(len(classes) + 1)
        try:
            found.append(Table(*classes[:at], (ONE[0], (), (), ()), *classes[at:]))
        except Turned:
            continue
    return found


def questions(table, start, many, leaves=("X", "Y", ONE)):
    """Pairs of types of a table, with letters, the other one often near an ancestor of the first one."""
    dice = Dice(start)
    arities = {one[0]: len(one[1]) for one in table.classes}
    found = []
    for _ in range(many):
        one = some_type(dice, arities, leaves, 3)
        near = dice.one_of(ancestors(table, one))
        arguments = []
        for argument in near[1:]:
            more = ancestors(table, argument)
            arguments.append(dice.one_of([argument, dice.one_of(more), some_type(dice, arities, leaves, 2), one]))
        found.append((one, (near[0], *arguments)) if dice.below(4) else ((near[0], *arguments), one))
    return found


def some_winding(dice, lower, arities, letters):
    leaves = [*letters, ("p",), ("q",)]
    while True:
        head = dice.one_of(list(lower))
        kind = (head, *[some_type(dice, arities, leaves, 2) for _ in range(lower[head])])
        if size(kind) <= 6:
            return kind


def winding(many):
    """Some tables with parents that turn about and name any class, so that some questions go round."""
    found = []
    for start in range(many):
        dice = Dice(start + 500000)
        duo = ("duo", (("X", dice.one_of(["in", "out"])), ("Y", "in")), (), ())
        arities = {"sink": 1, "p": 0, "q": 0, "r": dice.below(2), "duo": 2}
        lower = {"sink": 1, "duo": 2}
        classes = [("sink", (("X", "in"),), (), ()), duo]
        for name in "pqr":
            letters = "X"[:arities[name]]
            parents = [some_winding(dice, lower, arities, letters) for _ in range(1 + dice.below(2))]
            classes.append((name, tuple((letter, "same") for letter in letters), tuple(parents), ()))
            lower[name] = arities[name]
        found.append(Table(*classes))
    return found


def sunk(times, kind):
    for _ in range(times):
        kind = ("sink", kind)
    return kind


def turning(many):
    """Some tables of classes that are sinks of sinks of one another, so that many questions go round."""
    found = []
    for start in range(many):
        dice = Dice(start + 700000)
        names = "pqrs"
        classes = [("sink", (("X", "in"),), (), ())]
        for name in names:
            parents = [sunk(1 + dice.below(4), (dice.one_of(names),)) for _ in range(1 + dice.below(2))]
            classes.append((name, (), tuple(parents), ()))
        found.append(Table(*classes))
    return found


def turned_questions():
    """Pairs of types of the tables that turning makes."""
    return [((one,), sunk(times, (other,))) for one in "pqrs" for other in "pqrs" for times in (1, 2)]
