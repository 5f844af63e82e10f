"""What the document says of pairs, signs and members, done in the plainest way, to compare with."""

import itertools

import naive
from endlesskinds.types import fill, text


def values_of(table, kind):
    return {letter: argument for (letter, _), argument in zip(table[kind[0]][1], kind[1:])}


def ancestors(table, kind):
    """The set of them."""
    found = {kind}
    if isinstance(kind, tuple):
        for parent in table[kind[0]][2]:
            found |= ancestors(table, fill(parent, values_of(table, kind)))
    return found


def ways(table, one, other):
    """For each way the set of the pairs that it asks, or None if it fails."""
    if isinstance(other, str):
        return [set() for way in ancestors(table, one) if way == other]
    found = []
    for way in ancestors(table, one):
        if way[0] == other[0] and isinstance(way, tuple):
            triples = [(variance, mine, theirs)
                       for (_, variance), mine, theirs in zip(table[other[0]][1], way[1:], other[1:])]
            asked = {(mine, theirs) for variance, mine, theirs in triples if variance == "out"}
            asked |= {(theirs, mine) for variance, mine, theirs in triples if variance == "in"}
            failed = any(variance == "same" and mine != theirs for variance, mine, theirs in triples)
            found.append(None if failed else asked)
    return found


def reached(table, one, other, most=400):
    """All pairs that are reached, each with its ways; None if they are more than told."""
    found = {}
    rest = [(one, other)]
    while rest:
        pair = rest.pop(0)
        if pair not in found:
            found[pair] = ways(table, *pair)
            rest.extend(asked for way in found[pair] if way is not None for asked in way)
        if len(found) > most:
            return None
    return found


def is_within(asked, known):
    return any(way is not None and way <= known for way in asked)


def is_apart(asked, known):
    return all(way is None or way & known for way in asked)


def least(found, holds):
    """The pairs of which it holds by a finite number of steps."""
    known = set()
    while True:
        more = {pair for pair in found if holds(found[pair], known)}
        if more == known:
            return known
        known = more


def answer(table, one, other):
    """None if too many pairs are reached."""
    found = reached(table, one, other)
    if found is None:
        return None
    if (one, other) in least(found, is_within):
        return "within"
    return "apart" if (one, other) in least(found, is_apart) else "round"


def by_texts(pair):
    return (text(pair[0]), text(pair[1]))


def shows(table, one, other, word, rows):
    """Whether pairs of types show what they must for a word."""
    asked = [ways(table, *pair) for pair in rows]
    holds = is_within if word in ("within", "open") else is_apart
    if word in ("within", "apart"):
        if not rows or rows[-1] != (one, other):
            return False
        return all(holds(asked[at], set(rows[:at])) for at in range(len(rows)))
    if (one, other) not in rows or list(rows) != sorted(set(rows), key=by_texts):
        return False
    return all(holds(each, set(rows)) for each in asked)


def parent_places(table):
    return [(one[0], number) for one in table.classes for number in range(len(one[2]))]


def parent_cycle(table, names):
    """The first of the shortest widening cycles of steps from the parents that names reach, or None."""
    others = [place for place in naive.places(table) if place not in parent_places(table)]
    kinds = [kind for name in names for kind in naive.kept(table, name, others)]
    more = set(names).union(*[naive.names_in(kind) for kind in kinds])
    if more != set(names):
        return parent_cycle(table, more)
    return next(naive.cycles_over(naive.all_steps(table, names, others)), None)


TURNED = {"+": "-", "-": "+"}
FIRST = {"reads": "+", "takes": "-", "holds": "+-"}


def places(kind, signs, given):
    """The letters in a type, each with its signs; given has those of each parameter, by class and number."""
    if isinstance(kind, str):
        return [(kind, set(signs))]
    found = []
    for number, argument in enumerate(kind[1:]):
        passed = set()
        for sign in signs:
            passed |= {sign if own == "+" else TURNED[sign] for own in given[(kind[0], number)]}
        found += places(argument, passed, given)
    return found


def signs_of(table, name, letter, given):
    """The set of the signs of all places of a letter in the declared types of a class."""
    _, _, parents, members = table[name]
    kinds = [(parent, "+") for parent in parents] + [(kind, FIRST[way]) for _, way, kind in members]
    rows = [row for kind, signs in kinds for row in places(kind, signs, given)]
    return set().union(*[signs for found, signs in rows if found == letter])


def points(table):
    """Each point with its class's name, its number there, its letter and its variance."""
    return [(name, number, letter, variance) for name, parameters, _, _ in table.classes
            for number, (letter, variance) in enumerate(parameters)]


def faults(table):
    variances = {"out": "+", "in": "-", "same": "+-"}
    given = {(name, number): variances[variance] for name, number, _, variance in points(table)}
    barred = {"out": "-", "in": "+", "same": ""}
    return tuple(sorted((name, letter, sign) for name, _, letter, variance in points(table)
                        for sign in barred[variance] if sign in signs_of(table, name, letter, given)))


def signs(table):
    """Of all that can be given, the one with the fewest signs."""
    rows = points(table)
    right = []
    for choice in itertools.product(["", "+", "-", "+-"], repeat=len(rows)):
        given = {(name, number): signs for (name, number, _, _), signs in zip(rows, choice)}
        if all(signs_of(table, name, letter, given) <= set(given[(name, number)]) for name, number, letter, _ in rows):
            right.append(choice)
    first = min(right, key=lambda choice: len("".join(choice)))
    assert all(set(one) <= set(other) for choice in right for one, other in zip(first, choice))
    return tuple(sorted((name, letter, signs) for (name, _, letter, _), signs in zip(rows, first)))


def own_kind(one):
    return (one[0], *[letter for letter, _ in one[1]])


def members(table, kind):
    """For each name all members that a class type has: one, if nothing clashes."""
    found = {}
    for parent in table[kind[0]][2]:
        for name, rows in members(table, fill(parent, values_of(table, kind))).items():
            found.setdefault(name, set()).update(rows)
    for name, way, declared in table[kind[0]][3]:
        found[name] = {(way, fill(declared, values_of(table, kind)))}
    return found


def elders(table, name):
    found = set()
    for parent in table[name][2]:
        found |= {parent[0]} | elders(table, parent[0])
    return found


def clash(table, names):
    """The name of a class and the first member, for the first class with one of some names; None for none."""
    clashing = {}
    for one in table.classes:
        rows = {name for name, found in members(table, own_kind(one)).items() if len(found) > 1}
        if rows:
            clashing[one[0]] = min(rows)
    for one in table.names:
        if one in names and one in clashing and not any(elder in clashing for elder in elders(table, one)):
            return (one, clashing[one])
    return None


def fits(table, one, other):
    (way, kind), (other_way, wanted) = one, other
    if way in ("reads", "holds") and other_way == "reads":
        return answer(table, kind, wanted) == "within"
    if way in ("takes", "holds") and other_way == "takes":
        return answer(table, wanted, kind) == "within"
    return (way, other_way) == ("holds", "holds") and kind == wanted


def misfits(table):
    """In a table without clashes and without endless parents."""
    found = set()
    for name, _, parents, declared in table.classes:
        for (member, way, kind), parent in itertools.product(declared, parents):
            for row in members(table, parent).get(member, ()):
                if not fits(table, (way, kind), row):
                    found.add((name, member))
    return tuple(sorted(found))
