"""Variances that parameters must not have, and signs that they need [50], [51]."""

from endlesskinds.checks import check_table
from endlesskinds.classes import letters_of, variances_of
from endlesskinds.variances import BOTH, signed_places, wrong_letters

# The variance that signs stand for, if they are reckoned with in its place.
STANDS_FOR = {"": None, "+": "out", "-": "in", "+-": "same"}


def faults(table):
    """The points with signs of their places that they must not have."""
    check_table(table)
    classes = table.classes
    variances = variances_of(classes)
    found = []
    for one in classes:
        wrong = wrong_letters(one[1], signed_places(one, variances))
        found.extend([(one[0], letter, sign) for letter, sign in wrong])
    return tuple(sorted(found))


def joined(rows):
    """All signs that occur in some texts of signs."""
    return "".join([sign for sign in BOTH if any([sign in row for row in rows])])


def signs_under(classes, given):
    """The signs of the places of each point, reckoned with those that are given to the points."""
    variances = {}
    for one in classes:
        variances[one[0]] = [STANDS_FOR[given[(one[0], parameter[0])]] for parameter in one[1]]
    found = {}
    for one in classes:
        places = signed_places(one, variances)
        for letter in letters_of(one):
            found[(one[0], letter)] = joined([sign for other, sign in places if other == letter])
    return found


def signs(table):
    """The least signs that can be given to all points."""
    check_table(table)
    classes = table.classes
    given = {(one[0], letter): "" for one in classes for letter in letters_of(one)}
    # More signs that are given make no fewer that are needed. So these, from
    # none at all, only grow until they are the least that can be given.
    needed = signs_under(classes, given)
    while needed != given:
        given = needed
        needed = signs_under(classes, given)
    return tuple([(name, letter, given[(name, letter)]) for name, letter in sorted(given)])
