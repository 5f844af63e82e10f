"""What a book keeps at a time: a table and its roots, and what these need [70]."""

from endlesskinds.errors import Endless, TooMany
from endlesskinds.needs import needs
from endlesskinds.types import text_of


def outcome(table, root):
    """The types that a root needs, None if they are not told, and the cycle if they are endless."""
    try:
        return needs(table, root), None
    except Endless as error:
        return None, error.cycle
    except TooMany:
        return None, None


class Page:
    """A table and closed types of it, with their texts, and what they need, each by itself and together.

    All is found when the page is made, as len and in may change nothing.
    """

    def __init__(self, table, roots):
        self.own_table = table
        self.own_roots = roots
        self.texts = [text_of(root) for root in roots]
        self.outcomes = [outcome(table, root) for root in roots]
        together = {text_of(kind): kind for found, _ in self.outcomes if found is not None for kind in found}
        self.together = list(together.values())

    def __eq__(self, other):
        return isinstance(other, Page) and self.own_table == other.own_table and self.texts == other.texts


def cycles_on(page):
    """For each root of a page the cycle that makes its needs endless, or None."""
    return [cycle for _, cycle in page.outcomes]


def needed_on(page):
    """The types that the roots of a page need together."""
    for found, cycle in page.outcomes:
        if cycle is not None:
            raise Endless(cycle)
        if found is None:
            raise TooMany("a root needs too many types, or too large ones")
    return page.together


def is_crowded(page, most):
    """Whether the roots of a page need more types together than told, or one needs what is not told."""
    return any([found is None for found, _ in page.outcomes]) or len(page.together) > most
