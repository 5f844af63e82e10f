"""Which values are classes [20], and which classes make a table [21]."""

from endlesskinds.errors import Looped, NoClass, Turned, Unfit
from endlesskinds.types import is_letter, is_name, is_type, size_of
from endlesskinds.variances import PLUS, VARIANCES, signed_letters, wrong_letters

MOST_CLASSES = 5
MOST_IN_CLASS = 2
MOST_SIZE = 6
WAYS = ("reads", "takes", "holds")


def is_short_tuple(thing):
    return isinstance(thing, tuple) and len(thing) <= MOST_IN_CLASS


def all_differ(words):
    return len(set(words)) == len(words)


def is_declared(thing):
    """Whether any value is a type that a class may declare."""
    return is_type(thing) and size_of(thing) <= MOST_SIZE


def is_parameter(thing):
    if not isinstance(thing, tuple) or len(thing) != 2:
        return False
    return is_letter(thing[0]) and thing[1] in VARIANCES


def are_parameters(thing):
    if not is_short_tuple(thing) or not all([is_parameter(one) for one in thing]):
        return False
    return all_differ([one[0] for one in thing])


def are_parents(thing):
    if not is_short_tuple(thing):
        return False
    return all([is_declared(kind) and isinstance(kind, tuple) for kind in thing])


def is_member(thing):
    if not isinstance(thing, tuple) or len(thing) != 3:
        return False
    return is_name(thing[0]) and thing[1] in WAYS and is_declared(thing[2])


def are_members(thing):
    if not is_short_tuple(thing) or not all([is_member(one) for one in thing]):
        return False
    return all_differ([one[0] for one in thing])


def is_class(thing):
    """Whether any value is a class, taken by itself."""
    if not isinstance(thing, tuple) or len(thing) != 4:
        return False
    name, parameters, parents, members = thing
    return is_name(name) and are_parameters(parameters) and are_parents(parents) and are_members(members)


def names_of(classes):
    return tuple([one[0] for one in classes])


def letters_of(one):
    """The letters of a class's parameters."""
    return [parameter[0] for parameter in one[1]]


def declared(one):
    """The declared types of a class, its parents ahead."""
    return list(one[2]) + [member[2] for member in one[3]]


def arities(classes):
    """For the name of each class how many parameters it has."""
    return {one[0]: len(one[1]) for one in classes}


def variances_of(classes):
    """For the name of each class the variances of its parameters."""
    return {one[0]: [parameter[1] for parameter in one[1]] for one in classes}


def is_of(thing, wanted, letters):
    """Whether any value is a type with the names and numbers of arguments of a table, and no other letters."""
    rest = [thing]
    while rest:
        part = rest.pop()
        if isinstance(part, tuple) and len(part) > 0 and isinstance(part[0], str):
            if wanted.get(part[0]) != len(part) - 1:
                return False
            rest.extend(part[1:])
        elif part not in letters:
            return False
    return True


def check_forms(classes):
    if not all([is_class(one) for one in classes]):
        raise NoClass("one of them is not a class")
    if not 1 <= len(classes) <= MOST_CLASSES:
        raise NoClass("a table has one to five classes")
    if not all_differ(names_of(classes)):
        raise NoClass("two classes have one name")
    if all([len(one[1]) > 0 for one in classes]):
        raise NoClass("no class is without parameters")


def check_fit(classes):
    wanted = arities(classes)
    for one in classes:
        letters = letters_of(one)
        if not all([is_of(kind, wanted, letters) for kind in declared(one)]):
            raise Unfit(one[0])


def heads_of(classes):
    """For the name of each class those that its parents begin with."""
    return {one[0]: [parent[0] for parent in one[2]] for one in classes}


def elders(heads, name):
    """The names of a class's elders; heads is what heads_of returns."""
    found = []
    rest = list(heads[name])
    while rest:
        head = rest.pop()
        if head not in found:
            found.append(head)
            rest.extend(heads[head])
    return found


def check_elders(classes):
    heads = heads_of(classes)
    for name in heads:
        if name in elders(heads, name):
            raise Looped(name)


def check_parents(classes):
    variances = variances_of(classes)
    for name, parameters, parents, _ in classes:
        places = [place for parent in parents for place in signed_letters(parent, PLUS, variances)]
        wrong = wrong_letters(parameters, places)
        if wrong:
            raise Turned(name, wrong[0][0])


def check_classes(classes):
    """Raise the first exception that keeps classes from making a table."""
    check_forms(classes)
    check_fit(classes)
    check_elders(classes)
    check_parents(classes)
