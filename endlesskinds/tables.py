"""Tables of classes [20] to [23]."""

from endlesskinds.classes import arities, check_classes, is_of, names_of
from endlesskinds.errors import Looped, NoClass, NoName, NoText, Turned, Unfit
from endlesskinds.tabletext import classes_text, read_classes


class Table:
    """One to five classes that fit one another; a table does not change."""

    def __init__(self, *classes):
        check_classes(classes)
        self._classes = classes

    @property
    def classes(self):
        """The classes, in the order given."""
        return self._classes

    @property
    def names(self):
        """The names of the classes, in the order given."""
        return names_of(self._classes)

    def __len__(self):
        return len(self._classes)

    def __contains__(self, x):
        return is_of(x, arities(self._classes), ())

    def __eq__(self, other):
        return isinstance(other, Table) and self._classes == other._classes

    def __repr__(self):
        return f"Table({len(self._classes)} classes)"

    def __getitem__(self, at):
        for one in self._classes:
            if one[0] == at:
                return one
        raise NoName("no class has this name")

    def __iter__(self):
        raise TypeError("a table is not iterated over: take its classes or its names")

    def __add__(self, other):
        return Table(*self._classes, other)

    def __sub__(self, other):
        if other not in names_of(self._classes):
            raise NoName("no class has this name")
        rest = [one for one in self._classes if one[0] != other]
        return Table(*rest)

    def text(self):
        """The text of the table: a line for each class, and one for each of its members."""
        return classes_text(self._classes)

    @classmethod
    def read(cls, text):
        """The table that has exactly this text."""
        classes = read_classes(text)
        try:
            table = cls(*classes)
        except (NoClass, Unfit, Looped, Turned):
            raise NoText("these classes make no table") from None
        if table.text() != text:
            raise NoText("the text of a table is written in another way")
        return table
