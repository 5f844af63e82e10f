"""What the functions ask of their arguments."""

from endlesskinds.classes import arities, is_of
from endlesskinds.errors import NoTable, NoType
from endlesskinds.tables import Table

CAPITALS = "ABCDEFGHIJKLMNOPQRSTUVWXYZ"


def check_table(thing):
    if not isinstance(thing, Table):
        raise NoTable("this is not a table")


def check_kind(table, thing):
    """Raise NoTable or NoType unless any value is a closed type of what is a table."""
    check_table(table)
    if thing not in table:
        raise NoType("this is not a closed type of the table")


def is_open_kind(table, thing):
    """Whether any value is a type of a table, with whatever letters."""
    return is_of(thing, arities(table.classes), list(CAPITALS))


def check_open_kind(table, thing):
    """Raise NoTable or NoType unless any value is a type of what is a table, with whatever letters."""
    check_table(table)
    if not is_open_kind(table, thing):
        raise NoType("this is not a type of the table")


def is_integer(thing):
    return isinstance(thing, int) and not isinstance(thing, bool)
