"""What the document says of needs, steps, verdicts and mends, done in the plainest way, to compare with."""

import itertools

from endlesskinds.types import fill, size, text


def declared(one):
    return list(one[2]) + [member[2] for member in one[3]]


def places(table):
    return [(one[0], number) for one in table.classes for number in range(len(declared(one)))]


def kept(table, name, left_out=()):
    """The declared types of a class but those that are left out."""
    return [kind for number, kind in enumerate(declared(table[name])) if (name, number) not in left_out]


def needs_of(table, kind, left_out=()):
    values = {parameter[0]: argument for parameter, argument in zip(table[kind[0]][1], kind[1:])}
    return list(kind[1:]) + [fill(one, values) for one in kept(table, kind[0], left_out)]


def all_needs(table, kind, most=200):
    """The set of all types that are needed; None if they are very many or large, as if there is no end."""
    found = {kind}
    rest = [kind]
    while rest:
        for need in needs_of(table, rest.pop(0)):
            if need not in found:
                found.add(need)
                rest.append(need)
                if len(found) > most or size(need) > most:
                    return None
    return found


def all_layers(table, kind):
    found = []
    last = {kind}
    while last:
        found.append(tuple(sorted(last, key=text)))
        seen = {one for layer in found for one in layer}
        last = {need for one in last for need in needs_of(table, one)} - seen
    return found


def all_parts(kind):
    yield kind
    if isinstance(kind, tuple):
        for argument in kind[1:]:
            yield from all_parts(argument)


def letter_depths(kind, letter):
    if isinstance(kind, str):
        return [0] if kind == letter else []
    return [1 + depth for argument in kind[1:] for depth in letter_depths(argument, letter)]


def all_steps(table, names, left_out=()):
    found = {}
    for name in names:
        for (letter, _), kind in itertools.product(table[name][1], kept(table, name, left_out)):
            for part in all_parts(kind):
                if isinstance(part, tuple):
                    for (other, _), argument in zip(table[part[0]][1], part[1:]):
                        for depth in letter_depths(argument, letter):
                            found.setdefault(((name, letter), (part[0], other)), []).append(depth)
    return {step: max(depths) for step, depths in found.items()}


def names_in(kind):
    return {part[0] for part in all_parts(kind) if isinstance(part, tuple)}


def reached(table, kind, left_out=()):
    """The names of all classes that a type reaches."""
    names = names_in(kind)
    for _ in table.names:
        for name in list(names):
            for one in kept(table, name, left_out):
                names |= names_in(one)
    return names


def cycles_over(steps):
    """All widening cycles of some steps, the shortest first, ascending among the others."""
    points = sorted({point for step in steps for point in step})
    for many in range(1, len(points) + 1):
        for cycle in itertools.permutations(points, many):
            pairs = list(zip(cycle, cycle[1:] + cycle[:1]))
            if all(pair in steps for pair in pairs) and any(steps[pair] > 0 for pair in pairs):
                yield cycle


def cycles(table, kind, left_out=()):
    """All widening cycles that a type reaches, in the same order."""
    return cycles_over(all_steps(table, reached(table, kind, left_out), left_out))


def ends(table, kind, left_out=()):
    return next(cycles(table, kind, left_out), None) is None


def first_mend(table, kind):
    rows = sorted(places(table))
    for many in range(len(rows) + 1):
        for left_out in itertools.combinations(rows, many):
            if ends(table, kind, left_out):
                return left_out


def first_ways(table, kind):
    """For each type that is needed the first of the shortest tuples that lead to it."""
    found = {kind: (kind,)}
    last = [(kind,)]
    while last:
        longer = [(*way, need) for way in last for need in needs_of(table, way[-1])]
        last = []
        for way in sorted(longer, key=lambda way: [text(one) for one in way]):
            if way[-1] not in found:
                found[way[-1]] = way
                last.append(way)
    return found
