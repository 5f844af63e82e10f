"""All exceptions of Endlesskinds."""


class KindError(ValueError):
    """What Endlesskinds refuses."""


class NoType(KindError):
    """A value is not a type, or not one of the table."""


class NoValues(KindError):
    """A value is not a dict of letters and types."""


class NoText(KindError):
    """A value is not the text of a type, or of a table."""


class NoClass(KindError):
    """A value is not a class, or not one that the table may have."""


class NoTable(KindError):
    """A value is not a table."""


class NoName(KindError):
    """A value is not the name of a class of the table."""


class NoMost(KindError):
    """A value is not a number of types that a book may be capped at."""


class NoRoots(KindError):
    """Values are not the roots of a book."""


class NoRoot(KindError):
    """A type is not a root of the book."""


class NoDeed(KindError):
    """A value is not a deed."""


class TooMany(KindError):
    """There are more types or pairs than are told, or larger ones."""


class Crowded(KindError):
    """The roots of a book need more types than it lets."""


class NothingDone(KindError):
    """There is no change to take back."""


class Unfit(KindError):
    """A declared type of a class is not of the table, or has a letter of its own."""

    def __init__(self, name):
        super().__init__(f"{name}")
        self.name = name


class Looped(KindError):
    """A class is one of its own elders."""

    def __init__(self, name):
        super().__init__(f"{name}")
        self.name = name


class Turned(KindError):
    """The parents of a class are not right for a parameter."""

    def __init__(self, name, letter):
        super().__init__(f"{name}", f"{letter}")
        self.name = name
        self.letter = letter


class Endless(KindError):
    """What is needed or asked has no end, because of a widening cycle."""

    def __init__(self, cycle):
        super().__init__(f"{cycle}")
        self.cycle = cycle


class Clash(KindError):
    """Two parents of a class give one member in unlike ways."""

    def __init__(self, name, member):
        super().__init__(f"{name}", f"{member}")
        self.name = name
        self.member = member
