"""Books as the document tells of them, kept in the plainest way, to compare with."""

from endlesskinds.endings import verdict
from endlesskinds.errors import (
    Crowded, Endless, NoClass, NoDeed, NoName, NoRoot, NoRoots, NothingDone, NoType, TooMany,
)
from endlesskinds.needs import needs
from endlesskinds.tables import Table


class Ledger:
    """The classes and roots after each change, as lists; ends and most tell what it refuses."""

    def __init__(self, classes, roots, ends=False, most=None):
        self.rows = [(list(classes), list(roots))]
        self.ends = ends
        self.most = most

    def make(self, name, *arguments):
        if name == "do":
            return self.make_all(arguments)
        if name == "undo":
            if len(self.rows) == 1:
                raise NothingDone
            return self.rows.pop()
        classes, roots = self.rows[-1]
        classes, roots = getattr(self, name)(list(classes), list(roots), *arguments)
        table = Table(*classes)
        if any(root not in table for root in roots):
            raise NoRoots
        self.check(table, roots)
        self.rows.append((classes, roots))

    def make_all(self, deeds):
        counts = {"add": range(99), "drop": range(99), "change": [1], "root": [1], "unroot": [1], "undo": [0]}
        for deed in deeds:
            if not isinstance(deed, tuple) or not deed or len(deed) - 1 not in counts.get(deed[0], []):
                raise NoDeed
        before = list(self.rows)
        try:
            for deed in deeds:
                self.make(*deed)
        except ValueError:
            self.rows = before
            raise

    def check(self, table, roots):
        for root in roots:
            if self.ends and verdict(table, root)[0] == "endless":
                raise Endless(verdict(table, root)[1])
        if self.most is not None:
            try:
                crowded = len({kind for root in roots for kind in needs(table, root)}) > self.most
            except (Endless, TooMany):
                crowded = True
            if crowded:
                raise Crowded

    def add(self, classes, roots, *more):
        if not more:
            raise NoClass
        return classes + list(more), roots

    def drop(self, classes, roots, *names):
        if not names or len(set(names)) < len(names) or any(name not in Table(*classes).names for name in names):
            raise NoName
        return [one for one in classes if one[0] not in names], roots

    def change(self, classes, roots, one):
        if one[0] not in Table(*classes).names:
            raise NoName
        return [one if other[0] == one[0] else other for other in classes], roots

    def root(self, classes, roots, kind):
        if kind not in Table(*classes):
            raise NoType
        if kind in roots or len(roots) == 4:
            raise NoRoots
        return classes, roots + [kind]

    def unroot(self, classes, roots, kind):
        if kind not in Table(*classes):
            raise NoType
        if kind not in roots:
            raise NoRoot
        return classes, [root for root in roots if root != kind]
