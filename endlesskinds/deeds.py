"""Deeds: the changes of a book, each told by its name and its arguments [70].

Each change makes a new page of the page that there is, and leaves this as it is.
"""

from endlesskinds.checks import check_kind
from endlesskinds.classes import all_differ, is_class
from endlesskinds.errors import NoClass, NoDeed, NoName, NoRoot, NoRoots
from endlesskinds.pages import Page
from endlesskinds.tables import Table
from endlesskinds.types import text_of

MOST_ROOTS = 4

# How many arguments a deed has; these two have any number.
COUNTS = {"change": 1, "root": 1, "unroot": 1, "undo": 0}
UNCOUNTED = ("add", "drop")


def is_deed(thing):
    """Whether any value is a deed with a right number of arguments."""
    if not isinstance(thing, tuple) or len(thing) == 0 or not isinstance(thing[0], str):
        return False
    return thing[0] in UNCOUNTED or COUNTS.get(thing[0]) == len(thing) - 1


def check_deeds(things):
    if not all([is_deed(thing) for thing in things]):
        raise NoDeed("one of them is not a deed")


def first_page(table, roots):
    """The page that a table begins with some values as its roots."""
    if not all([root in table for root in roots]):
        raise NoRoots("one of them is not a closed type of the table")
    if len(roots) > MOST_ROOTS or not all_differ([text_of(root) for root in roots]):
        raise NoRoots("there are up to four different roots")
    return Page(table, roots)


def with_classes(page, classes):
    """A page with the same roots, of a table of some classes."""
    table = Table(*classes)
    if not all([root in table for root in page.own_roots]):
        raise NoRoots("a root is lost")
    return Page(table, page.own_roots)


def with_added(page, arguments):
    if not arguments:
        raise NoClass("no class is told")
    return with_classes(page, [*page.own_table.classes, *arguments])


def with_dropped(page, arguments):
    classes = page.own_table.classes
    names = page.own_table.names
    if not arguments or not all([name in names for name in arguments]) or not all_differ(arguments):
        raise NoName("these are not different names of classes")
    return with_classes(page, [one for one in classes if one[0] not in arguments])


def with_changed(page, arguments):
    new = arguments[0]
    if not is_class(new):
        raise NoClass("this is not a class")
    if new[0] not in page.own_table.names:
        raise NoName("no class has this name")
    return with_classes(page, [new if one[0] == new[0] else one for one in page.own_table.classes])


def with_root(page, arguments):
    kind = arguments[0]
    check_kind(page.own_table, kind)
    if text_of(kind) in page.texts or len(page.texts) == MOST_ROOTS:
        raise NoRoots("this root is there, or there are four")
    return Page(page.own_table, (*page.own_roots, kind))


def without_root(page, arguments):
    kind = arguments[0]
    check_kind(page.own_table, kind)
    gone = text_of(kind)
    if gone not in page.texts:
        raise NoRoot("this root is not there")
    roots = [root for root, words in zip(page.own_roots, page.texts) if words != gone]
    return Page(page.own_table, tuple(roots))


CHANGES = {
    "add": with_added,
    "drop": with_dropped,
    "change": with_changed,
    "root": with_root,
    "unroot": without_root,
}


def made(page, deed):
    """The page that a deed, but undo, makes of another one."""
    name, *arguments = deed
    change = CHANGES[name]
    return change(page, arguments)
